"""The calls on an object that holds a program, or none."""

from lotprograms.expressions import read_lone_expression
from lotprograms.faults import Fault
from lotprograms.grammar import read_program
from lotprograms.judging import check_kinds, kind_of
from lotprograms.mentions import called_in, is_recursive, mentioned_in, points_of
from lotprograms.names import check_expression, check_names, functions_by_name
from lotprograms.naming import function_names, let_names, names_by_number, own_names
from lotprograms.oneform import one_form
from lotprograms.parts import lets_of
from lotprograms.tokens import LONGEST_TEXT, tokens_of

LOAD = 0
SHOWN = 1
SIZES = 2
LETS = 3
FUNS = 4
KIND = 5
POINTS = 6
TELLS = 7
PLAIN = 8
SAME = 9

NONE_HELD = -1
NO_SUCH = -2
NO_PROGRAM = -4


class Call:
    """A call: its number, and the whole number and the text that stand behind it, if any do."""

    def __init__(self, number, asked, text):
        self.number = number
        self.asked = asked
        self.text = text


class Loaded:
    """A program that was found right, and what was found out about it; the kinds of lets are by name."""

    def __init__(self, program, let_kinds, form_bytes):
        self.program = program
        self.let_kinds = let_kinds
        self.form_bytes = form_bytes
        self.plain_bytes = one_form(program, names_by_number(program))
        self.let_names = let_names(program)
        self.function_names = function_names(program)
        self.called = [called_in(function.body, self.function_names) for function in program.functions]


class Holder:
    def __init__(self):
        self.loaded = None


def answers(calls):
    """The answers to the calls on one new object, each with how many numbers it has before it."""
    holder = Holder()
    given = []
    for call in calls_in(calls):
        answer = answer_to(holder, call)
        given.append(len(answer))
        given.extend(answer)
    return given


def calls_in(numbers):
    calls = []
    at = 0
    while at < len(numbers):
        number = numbers[at]
        if has_text(number):
            first = at + 2
            at = first + numbers[at + 1]
            calls.append(Call(number, 0, numbers[first:at]))
        elif has_number(number):
            calls.append(Call(number, numbers[at + 1], []))
            at += 2
        else:
            calls.append(Call(number, 0, []))
            at += 1
    return calls


def has_text(number):
    return number in (LOAD, KIND, SAME)


def has_number(number):
    return number in (LETS, FUNS)


def answer_to(holder, call):
    if call.number == LOAD:
        return load(holder, call.text)
    if holder.loaded is None:
        return [NONE_HELD]
    return answer_of_held(holder.loaded, call)


def answer_of_held(loaded, call):
    if call.number == SHOWN:
        return shown(loaded)
    if call.number == SIZES:
        return sizes(loaded)
    if call.number == LETS:
        return lets(loaded, call.asked)
    if call.number == FUNS:
        return funs(loaded, call.asked)
    if call.number == KIND:
        return kind(loaded, call.text)
    if call.number == POINTS:
        return points(loaded)
    if call.number == TELLS:
        return tells(loaded)
    if call.number == PLAIN:
        return plain(loaded)
    return same(loaded, call.text)


def load(holder, text):
    try:
        loaded = loaded_from(text)
    except Fault as fault:
        return fault_numbers(fault)
    holder.loaded = loaded
    return [1]


def loaded_from(text):
    program = read_program(tokens_of(text))
    check_names(program)
    let_kinds = check_kinds(program)
    form_bytes = one_form(program, own_names(program))
    if len(form_bytes) > LONGEST_TEXT:
        raise Fault(10, 0)
    return Loaded(program, let_kinds, form_bytes)


def shown(loaded):
    return counted(loaded.form_bytes)


def sizes(loaded):
    program = loaded.program
    return [
        len(program.statements), len(loaded.let_names), len(program.functions),
        len(program.told), program.budget,
    ]


def lets(loaded, number):
    if number < 0 or number >= len(loaded.let_names):
        return [NO_SUCH]
    name = loaded.let_names[number]
    expression = lets_of(loaded.program)[number].expression
    answer = [1]
    answer.extend(name_numbers(name))
    answer.extend(list(loaded.let_kinds[name]))
    answer.extend(counted(mentioned_in(expression, loaded.let_names)))
    answer.extend(counted(called_in(expression, loaded.function_names)))
    return answer


def funs(loaded, number):
    if number < 0 or number >= len(loaded.function_names):
        return [NO_SUCH]
    function = loaded.program.functions[number]
    answer = [1]
    answer.extend(name_numbers(function.name))
    answer.append(len(function.parameters))
    for parameter in function.parameters:
        answer.extend(name_numbers(parameter.name))
        answer.extend(list(parameter.kind))
    answer.extend(list(function.kind))
    answer.extend(counted(loaded.called[number]))
    answer.append(1 if is_recursive(number, loaded.called) else 0)
    return answer


def kind(loaded, text):
    try:
        found = kind_of_text(loaded, text)
    except Fault as fault:
        return fault_numbers(fault)
    return [1] + list(found)


def kind_of_text(loaded, text):
    expression = read_lone_expression(tokens_of(text))
    named = functions_by_name(loaded.program.functions)
    check_expression(expression, loaded.let_kinds, named)
    return kind_of(expression, loaded.let_kinds, named)


def points(loaded):
    found = points_of(loaded.program)
    answer = [len(found)]
    for point in found:
        answer.extend(list(point))
    return answer


def tells(loaded):
    return counted([loaded.let_names.index(token.word) for token in loaded.program.told])


def plain(loaded):
    return counted(loaded.plain_bytes)


def same(loaded, text):
    try:
        other = loaded_from(text)
    except Fault:
        return [NO_PROGRAM]
    return [1 if other.plain_bytes == loaded.plain_bytes else 0]


def fault_numbers(fault):
    return [0, fault.code, fault.place]


def counted(numbers):
    return [len(numbers)] + numbers


def name_numbers(name):
    return counted([ord(sign) for sign in name])
