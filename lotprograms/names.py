"""The rules for names: each known where it stands, none given twice."""

from lotprograms.expressions import OPERATIONS
from lotprograms.faults import Fault
from lotprograms.parts import Let, within


def check_names(program):
    functions = functions_by_name(program.functions)
    check_functions(program.functions, functions)
    lets = check_statements(program.statements, functions)
    check_told(program.told, lets)


def functions_by_name(functions):
    """Of two functions with one name the earlier one counts: the later one is the fault."""
    named = {}
    for function in functions:
        if function.name not in named:
            named[function.name] = function
    return named


def check_functions(functions, named):
    earlier = {}
    for function in functions:
        if function.name in OPERATIONS:
            raise Fault(12, function.place)
        if function.name in earlier:
            raise Fault(5, function.place)
        earlier[function.name] = True
        check_expression(function.body, checked_parameters(function.parameters), named)


def checked_parameters(parameters):
    known = {}
    for parameter in parameters:
        if parameter.name in known:
            raise Fault(5, parameter.place)
        known[parameter.name] = True
    return known


def check_statements(statements, named):
    """The names of all lets, if the names in all statements are right."""
    known = {}
    for statement in statements:
        if isinstance(statement, Let) and statement.name in known:
            raise Fault(5, statement.place)
        check_expression(statement.expression, known, named)
        if isinstance(statement, Let):
            known[statement.name] = True
    return known


def check_told(told, lets):
    earlier = {}
    for token in told:
        if token.word not in lets:
            raise Fault(6, token.place)
        if token.word in earlier:
            raise Fault(5, token.place)
        earlier[token.word] = True


def check_expression(expression, known, named):
    for inner in within(expression):
        if inner.form == "name" and inner.word not in known:
            raise Fault(6, inner.place)
        if inner.form == "call":
            check_call(inner, named)
        if inner.form == "pick":
            check_weights(inner)


def check_call(call, named):
    if call.word not in named:
        raise Fault(6, call.place)
    if len(call.parts) != len(named[call.word].parameters):
        raise Fault(13, call.place)


def check_weights(pick):
    if all([weight[0] == 0 for weight in pick.fractions]):
        raise Fault(11, pick.place)
