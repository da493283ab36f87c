"""What mentions what, and which function calls which."""

from lotprograms.parts import within


def mentioned_in(expression, names):
    """The numbers of the names that stand as values, in the order in which they come first."""
    return numbers_met(expression, "name", names)


def called_in(expression, names):
    """The numbers of the functions that are called, in the order in which they come first."""
    return numbers_met(expression, "call", names)


def numbers_met(expression, form, names):
    met = []
    for inner in within(expression):
        if inner.form == form and inner.word not in met:
            met.append(inner.word)
    return [names.index(word) for word in met]


def is_recursive(number, called):
    """Whether a function meets itself; called has for each function those that its body calls."""
    met = list(called[number])
    at = 0
    while at < len(met):
        others = called[met[at]]
        for other in others:
            if other not in met:
                met.append(other)
        at += 1
    return number in met
