"""The grammar of programs."""

from lotprograms.expressions import read_expression
from lotprograms.faults import Fault
from lotprograms.parts import Function, Let, Observe, Parameter, Program
from lotprograms.reader import Reader, read_kind
from lotprograms.tokens import is_name

GREATEST_BUDGET = 20
MOST_FUNCTIONS = 8
MOST_PARAMETERS = 4
MOST_STATEMENTS = 32
MOST_TOLD = 6


def read_program(tokens):
    reader = Reader(tokens)
    reader.need("chance")
    title = reader.need_name().word
    budget = read_budget(reader)
    functions = read_functions(reader)
    statements = read_statements(reader)
    told = read_told(reader)
    return Program(title, budget, functions, statements, told)


def read_budget(reader):
    if not reader.passes("budget"):
        return 0
    token = reader.need_number()
    if token.number < 0 or token.number > GREATEST_BUDGET:
        raise Fault(7, token.place)
    return token.number


def read_functions(reader):
    functions = []
    while reader.sees("def"):
        if len(functions) == MOST_FUNCTIONS:
            raise Fault(4, reader.ahead().place)
        functions.append(read_function(reader))
    return functions


def read_function(reader):
    reader.need("def")
    name = reader.need_name()
    reader.need("(")
    parameters = read_parameters(reader)
    kind = read_kind(reader)
    reader.need("=")
    body = read_expression(reader, 0)
    reader.need(";")
    return Function(name, parameters, kind, body)


def read_parameters(reader):
    parameters = []
    if reader.passes(")"):
        return parameters
    parameters.append(read_parameter(reader))
    while reader.passes(","):
        refuse_more_names(reader, len(parameters), MOST_PARAMETERS)
        parameters.append(read_parameter(reader))
    reader.need(")")
    return parameters


def read_parameter(reader):
    name = reader.need_name()
    return Parameter(name, read_kind(reader))


def refuse_more_names(reader, count, most):
    """Behind as many as there may be, one more name is fault 4, all else is fault 3."""
    if count == most:
        raise Fault(4 if is_name(reader.ahead()) else 3, reader.ahead().place)


def read_statements(reader):
    statements = [read_statement(reader)]
    while not reader.sees("tell"):
        if len(statements) == MOST_STATEMENTS and (reader.sees("let") or reader.sees("observe")):
            raise Fault(4, reader.ahead().place)
        statements.append(read_statement(reader))
    return statements


def read_statement(reader):
    if reader.passes("observe"):
        observed = read_expression(reader, 0)
        reader.need(";")
        return Observe(observed)
    reader.need("let")
    name = reader.need_name()
    written = None if reader.sees("=") else read_kind(reader)
    reader.need("=")
    expression = read_expression(reader, 0)
    reader.need(";")
    return Let(name, written, expression)


def read_told(reader):
    reader.need("tell")
    told = [reader.need_name()]
    while reader.passes(","):
        refuse_more_names(reader, len(told), MOST_TOLD)
        told.append(reader.need_name())
    reader.need_end()
    return told
