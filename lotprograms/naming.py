"""What a program's names are written as in its one form: as they are, or by number."""

from lotprograms.parts import lets_of

PLAIN_TITLE = "P"


class Naming:
    """The title as it's written, and by name what is written for each let, function and parameter.

    The parameters have a dict for each function, as unlike functions may have parameters of one name.
    """

    def __init__(self, title, lets, functions, parameters):
        self.title = title
        self.lets = lets
        self.functions = functions
        self.parameters = parameters


def own_names(program):
    lets = kept(let_names(program))
    functions = kept(function_names(program))
    parameters = [kept(parameter_names(function)) for function in program.functions]
    return Naming(program.title, lets, functions, parameters)


def names_by_number(program):
    lets = numbered("x", let_names(program))
    functions = numbered("f", function_names(program))
    parameters = [numbered("a", parameter_names(function)) for function in program.functions]
    return Naming(PLAIN_TITLE, lets, functions, parameters)


def let_names(program):
    return [let.name for let in lets_of(program)]


def function_names(program):
    return [function.name for function in program.functions]


def parameter_names(function):
    return [parameter.name for parameter in function.parameters]


def kept(names):
    return dict([(name, name) for name in names])


def numbered(letter, names):
    return dict([(name, letter + str(number)) for number, name in enumerate(names)])
