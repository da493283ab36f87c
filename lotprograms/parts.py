"""What a program is made of, once it is read."""


class Expression:
    """An expression; its place, word and number are those of its first token.

    Its form is number, truth, name, call or operation, or its own reserved word.
    Its parts are the expressions in it. A flip and a weigh have one fraction, a pick one for each
    part; a uniform has its bounds as a kind.
    """

    def __init__(self, form, token, parts, fractions, bounds):
        self.form = form
        self.word = token.word
        self.number = token.number
        self.place = token.place
        self.parts = parts
        self.fractions = fractions
        self.bounds = bounds


class Parameter:
    def __init__(self, token, kind):
        self.name = token.word
        self.place = token.place
        self.kind = kind


class Function:
    def __init__(self, token, parameters, kind, body):
        self.name = token.word
        self.place = token.place
        self.parameters = parameters
        self.kind = kind
        self.body = body


class Let:
    """A let; its written kind is None where none is written."""

    def __init__(self, token, written, expression):
        self.name = token.word
        self.place = token.place
        self.written = written
        self.expression = expression


class Observe:
    def __init__(self, expression):
        self.expression = expression


class Program:
    """A program; the told names are kept as their tokens, for their places."""

    def __init__(self, title, budget, functions, statements, told):
        self.title = title
        self.budget = budget
        self.functions = functions
        self.statements = statements
        self.told = told


def lets_of(program):
    return [statement for statement in program.statements if isinstance(statement, Let)]


def expressions_of(program):
    """The bodies of all functions, and what stands in all statements, in the order of the text."""
    bodies = [function.body for function in program.functions]
    return bodies + [statement.expression for statement in program.statements]


def within(expression):
    """The expression and all in it, in the order in which they begin in the text."""
    found = [expression]
    for part in expression.parts:
        found.extend(within(part))
    return found
