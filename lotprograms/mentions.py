"""What mentions what, which function calls which, and where chance comes in."""

from lotprograms.kinds import high_of, low_of
from lotprograms.parts import expressions_of, within


def mentioned_in(expression, names):
    """The numbers of the names that stand as values, in the order in which they come first."""
    return numbers_met(expression, "name", names)


def called_in(expression, names):
    """The numbers of the functions that are called, in the order in which they come first."""
    return numbers_met(expression, "call", names)


def numbers_met(expression, form, names):
    met = []
    for inner in within(expression):
        if inner.form == form and inner.word not in met:
            met.append(inner.word)
    return [names.index(word) for word in met]


def is_recursive(number, called):
    """Whether a function meets itself; called has for each function those that its body calls."""
    met = list(called[number])
    at = 0
    while at < len(met):
        others = called[met[at]]
        for other in others:
            if other not in met:
                met.append(other)
        at += 1
    return number in met


def points_of(program):
    """For each point of chance, in the order of the text, its place and how many ways it has."""
    points = []
    for expression in expressions_of(program):
        for inner in within(expression):
            ways = ways_of(inner)
            if ways > 0:
                points.append((inner.place, ways))
    return points


def ways_of(expression):
    """How many ways a point of chance has; 0 for what is none."""
    if expression.form == "flip":
        return 2
    if expression.form == "uniform":
        return high_of(expression.bounds) - low_of(expression.bounds) + 1
    if expression.form == "pick":
        return len(expression.parts)
    return 0
