"""The rules for kinds: every value of its kind and within its range, whatever the lots."""

from lotprograms.kinds import (
    FLAG, FLAG_SORT, NUM_SORT, fitting_num, high_of, hold_against, low_of, need_sort, sort_of,
)
from lotprograms.names import functions_by_name
from lotprograms.parts import Let

TAKES_FLAGS = ("not", "and", "or")
GIVES_FLAG = ("not", "and", "or", "lt", "le", "eq")


def check_kinds(program):
    """The kinds of all lets by name, if all kinds are right."""
    named = functions_by_name(program.functions)
    for function in program.functions:
        known = {}
        for parameter in function.parameters:
            known[parameter.name] = parameter.kind
        hold_against(kind_of(function.body, known, named), function.kind, function.body.place)
    return check_statement_kinds(program.statements, named)


def check_statement_kinds(statements, named):
    known = {}
    for statement in statements:
        found = kind_of(statement.expression, known, named)
        if isinstance(statement, Let):
            known[statement.name] = kind_of_let(statement, found)
        else:
            need_sort(found, FLAG_SORT, statement.expression.place)
    return known


def kind_of_let(statement, found):
    if statement.written is None:
        return found
    hold_against(found, statement.written, statement.expression.place)
    return statement.written


def kind_of(expression, known, named):
    """An expression's kind; known are kinds by name, named are functions by name."""
    form = expression.form
    if form == "truth" or form == "flip":
        return FLAG
    if form == "number":
        return fitting_num(expression.number, expression.number, expression.place)
    if form == "uniform":
        return expression.bounds
    if form == "name":
        return known[expression.word]
    if form == "if" or form == "given":
        return kind_behind_question(expression, known, named)
    kinds = [kind_of(part, known, named) for part in expression.parts]
    if form == "call":
        return kind_of_call(expression, kinds, named[expression.word])
    if form == "operation":
        return kind_of_operation(expression, kinds)
    return joined_kind(expression, expression.parts, kinds)


def kind_behind_question(expression, known, named):
    question = expression.parts[0]
    need_sort(kind_of(question, known, named), FLAG_SORT, question.place)
    parts = expression.parts[1:]
    kinds = [kind_of(part, known, named) for part in parts]
    return joined_kind(expression, parts, kinds)


def joined_kind(expression, parts, kinds):
    """The kind of what is one of these parts."""
    joined = kinds[0]
    for part, kind in zip(parts, kinds):
        need_sort(kind, sort_of(joined), part.place)
        if sort_of(joined) == NUM_SORT:
            low = min(low_of(joined), low_of(kind))
            high = max(high_of(joined), high_of(kind))
            joined = fitting_num(low, high, expression.place)
    return joined


def kind_of_call(expression, kinds, function):
    for k in range(len(kinds)):
        hold_against(kinds[k], function.parameters[k].kind, expression.parts[k].place)
    return function.kind


def kind_of_operation(expression, kinds):
    wanted = sort_taken(expression.word, kinds)
    for part, kind in zip(expression.parts, kinds):
        need_sort(kind, wanted, part.place)
    if expression.word in GIVES_FLAG:
        return FLAG
    ends = ends_of_one(expression.word, kinds) if len(kinds) == 1 else ends_of_two(expression.word, kinds)
    return fitting_num(ends[0], ends[1], expression.place)


def sort_taken(word, kinds):
    if word == "eq":
        return sort_of(kinds[0])
    return FLAG_SORT if word in TAKES_FLAGS else NUM_SORT


def ends_of_one(word, kinds):
    low = low_of(kinds[0])
    high = high_of(kinds[0])
    if word == "neg" or high <= 0:
        return (-high, -low)
    if low >= 0:
        return (low, high)
    return (0, max(-low, high))


def ends_of_two(word, kinds):
    a = low_of(kinds[0])
    b = high_of(kinds[0])
    c = low_of(kinds[1])
    d = high_of(kinds[1])
    if word == "add":
        return (a + c, b + d)
    if word == "sub":
        return (a - d, b - c)
    if word == "min":
        return (min(a, c), min(b, d))
    if word == "max":
        return (max(a, c), max(b, d))
    products = [a * c, a * d, b * c, b * d]
    return (min(products), max(products))
