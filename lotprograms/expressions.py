"""The grammar of expressions.

An expression is at most 24 deep, so reading one inside another by a call is never deep either.
What is called around is how many expressions an expression stands inside of.
"""

from lotprograms.faults import Fault
from lotprograms.kinds import bounded_num
from lotprograms.parts import Expression
from lotprograms.reader import Reader, read_share, read_weight
from lotprograms.tokens import NUMBER, is_name

DEEPEST = 24
MOST_ARGUMENTS = 4
MOST_WAYS = 8

TRUTHS = ("true", "false")
BUILT_IN = ("if", "flip", "pick", "uniform", "given", "weigh")

OPERATIONS = {
    "neg": 1, "abs": 1, "not": 1, "add": 2, "sub": 2, "mul": 2, "min": 2, "max": 2,
    "lt": 2, "le": 2, "eq": 2, "and": 2, "or": 2,
}


def begins_expression(token):
    return token.form == NUMBER or is_name(token) or token.word in TRUTHS or token.word in BUILT_IN


def read_lone_expression(tokens):
    """The expression that a text is, with nothing behind it."""
    reader = Reader(tokens)
    expression = read_expression(reader, 0)
    reader.need_end()
    return expression


def read_expression(reader, around):
    first = reader.ahead()
    if around == DEEPEST:
        raise Fault(4, first.place)
    if not begins_expression(first):
        raise Fault(3, first.place)
    reader.take()
    if first.form == NUMBER:
        return Expression("number", first, [], [], None)
    if first.word in TRUTHS:
        return Expression("truth", first, [], [], None)
    if first.word in BUILT_IN:
        return read_built_in(reader, first, around)
    if not reader.sees("("):
        return Expression("name", first, [], [], None)
    if first.word in OPERATIONS:
        return Expression("operation", first, read_parts(reader, OPERATIONS[first.word], around), [], None)
    return Expression("call", first, read_arguments(reader, around), [], None)


def read_built_in(reader, first, around):
    if first.word == "if":
        return Expression("if", first, read_parts(reader, 3, around), [], None)
    if first.word == "given":
        return Expression("given", first, read_parts(reader, 2, around), [], None)
    if first.word == "flip":
        return read_flip(reader, first)
    if first.word == "uniform":
        return read_uniform(reader, first)
    if first.word == "weigh":
        return read_weigh(reader, first, around)
    return read_pick(reader, first, around)


def read_parts(reader, count, around):
    """Just so many expressions, in brackets."""
    reader.need("(")
    parts = [read_expression(reader, around + 1)]
    while len(parts) < count:
        reader.need(",")
        parts.append(read_expression(reader, around + 1))
    reader.need(")")
    return parts


def read_arguments(reader, around):
    reader.need("(")
    parts = []
    if reader.passes(")"):
        return parts
    parts.append(read_expression(reader, around + 1))
    while reader.passes(","):
        refuse_more(reader, len(parts), MOST_ARGUMENTS)
        parts.append(read_expression(reader, around + 1))
    reader.need(")")
    return parts


def refuse_more(reader, count, most):
    """Behind as many as there may be, what begins one more is fault 4, all else is fault 3."""
    if count == most:
        raise Fault(4 if begins_expression(reader.ahead()) else 3, reader.ahead().place)


def read_flip(reader, first):
    reader.need("(")
    share = read_share(reader)
    reader.need(")")
    return Expression("flip", first, [], [share], None)


def read_uniform(reader, first):
    reader.need("(")
    low = reader.need_number()
    reader.need(",")
    high = reader.need_number()
    bounds = bounded_num(low, high)
    reader.need(")")
    return Expression("uniform", first, [], [], bounds)


def read_weigh(reader, first, around):
    reader.need("(")
    weight = read_weight(reader)
    reader.need(",")
    part = read_expression(reader, around + 1)
    reader.need(")")
    return Expression("weigh", first, [part], [weight], None)


def read_pick(reader, first, around):
    parts = []
    weights = []
    reader.need("(")
    read_way(reader, around, parts, weights)
    reader.need(",")
    read_way(reader, around, parts, weights)
    while reader.passes(","):
        refuse_more(reader, len(parts), MOST_WAYS)
        read_way(reader, around, parts, weights)
    reader.need(")")
    return Expression("pick", first, parts, weights, None)


def read_way(reader, around, parts, weights):
    parts.append(read_expression(reader, around + 1))
    reader.need(":")
    weights.append(read_weight(reader))
