"""The calls on an object that holds a program, or none."""

from lotprograms.faults import Fault
from lotprograms.grammar import read_program
from lotprograms.judging import check_kinds
from lotprograms.mentions import called_in, is_recursive, mentioned_in
from lotprograms.names import check_names
from lotprograms.oneform import one_form
from lotprograms.parts import lets_of
from lotprograms.tokens import LONGEST_TEXT, tokens_of

LOAD = 0
SHOWN = 1
SIZES = 2
LETS = 3
FUNS = 4
KIND = 5
SAME = 9

WITH_TEXT = (LOAD, KIND, SAME)
WITH_NUMBER = (LETS, FUNS)

NONE_HELD = -1
NO_SUCH = -2


class Call:
    """A call: its number, and the whole number and the text that stand behind it, if any do."""

    def __init__(self, number, asked, text):
        self.number = number
        self.asked = asked
        self.text = text


class Loaded:
    """A program that was found right, and what was found out about it."""

    def __init__(self, program, let_kinds, form_bytes):
        self.program = program
        self.let_kinds = let_kinds
        self.form_bytes = form_bytes
        self.let_names = [let.name for let in lets_of(program)]
        self.function_names = [function.name for function in program.functions]
        self.called = [called_in(function.body, self.function_names) for function in program.functions]


class Holder:
    def __init__(self):
        self.loaded = None


def answers(calls):
    """The answers to the calls on one new object, each with how many numbers it has before it."""
    holder = Holder()
    given = []
    for call in calls_in(calls):
        answer = answer_to(holder, call)
        given.append(len(answer))
        given.extend(answer)
    return given


def calls_in(numbers):
    calls = []
    at = 0
    while at < len(numbers):
        number = numbers[at]
        if number in WITH_TEXT:
            first = at + 2
            at = first + numbers[at + 1]
            calls.append(Call(number, 0, numbers[first:at]))
        elif number in WITH_NUMBER:
            calls.append(Call(number, numbers[at + 1], []))
            at += 2
        else:
            calls.append(Call(number, 0, []))
            at += 1
    return calls


def answer_to(holder, call):
    if call.number == LOAD:
        return load(holder, call.text)
    if holder.loaded is None:
        return [NONE_HELD]
    if call.number == SHOWN:
        return shown(holder.loaded)
    if call.number == SIZES:
        return sizes(holder.loaded)
    if call.number == LETS:
        return lets(holder.loaded, call.asked)
    if call.number == FUNS:
        return funs(holder.loaded, call.asked)
    # The other calls are not written yet: no answer of theirs is empty, so this can't be taken for one.
    return []


def load(holder, text):
    try:
        loaded = loaded_from(text)
    except Fault as fault:
        return [0, fault.code, fault.place]
    holder.loaded = loaded
    return [1]


def loaded_from(text):
    program = read_program(tokens_of(text))
    check_names(program)
    let_kinds = check_kinds(program)
    form_bytes = one_form(program)
    if len(form_bytes) > LONGEST_TEXT:
        raise Fault(10, 0)
    return Loaded(program, let_kinds, form_bytes)


def shown(loaded):
    return counted(loaded.form_bytes)


def sizes(loaded):
    program = loaded.program
    return [
        len(program.statements), len(loaded.let_names), len(program.functions),
        len(program.told), program.budget,
    ]


def lets(loaded, number):
    if number < 0 or number >= len(loaded.let_names):
        return [NO_SUCH]
    expression = lets_of(loaded.program)[number].expression
    answer = [1]
    answer.extend(name_numbers(loaded.let_names[number]))
    answer.extend(list(loaded.let_kinds[number]))
    answer.extend(counted(mentioned_in(expression, loaded.let_names)))
    answer.extend(counted(called_in(expression, loaded.function_names)))
    return answer


def funs(loaded, number):
    if number < 0 or number >= len(loaded.function_names):
        return [NO_SUCH]
    function = loaded.program.functions[number]
    answer = [1]
    answer.extend(name_numbers(function.name))
    answer.append(len(function.parameters))
    for parameter in function.parameters:
        answer.extend(name_numbers(parameter.name))
        answer.extend(list(parameter.kind))
    answer.extend(list(function.kind))
    answer.extend(counted(loaded.called[number]))
    answer.append(1 if is_recursive(number, loaded.called) else 0)
    return answer


def counted(numbers):
    return [len(numbers)] + numbers


def name_numbers(name):
    return counted([ord(sign) for sign in name])
