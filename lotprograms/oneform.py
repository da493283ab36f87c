"""The one form of a program."""

from lotprograms.kinds import FLAG, high_of, low_of
from lotprograms.parts import Let


def one_form(program, naming):
    """The bytes of a program's one form, with its names written as the naming says."""
    rows = ["chance " + naming.title]
    if program.budget != 0:
        rows.append("budget " + str(program.budget))
    for function, parameters in zip(program.functions, naming.parameters):
        rows.append(function_text(function, parameters, naming.functions))
    for statement in program.statements:
        rows.append(statement_text(statement, naming.lets, naming.functions))
    rows.append("tell " + ", ".join([naming.lets[token.word] for token in program.told]))
    return [ord(sign) for sign in "\n".join(rows) + "\n"]


def function_text(function, values, functions):
    parameters = ", ".join([values[p.name] + " " + kind_text(p.kind) for p in function.parameters])
    head = "def " + functions[function.name] + "(" + parameters + ") " + kind_text(function.kind)
    return head + " = " + expression_text(function.body, values, functions) + " ;"


def statement_text(statement, values, functions):
    tail = expression_text(statement.expression, values, functions) + " ;"
    if not isinstance(statement, Let):
        return "observe " + tail
    head = "let " + values[statement.name]
    if statement.written is not None:
        head += " " + kind_text(statement.written)
    return head + " = " + tail


def kind_text(kind):
    if kind == FLAG:
        return "flag"
    return "num " + str(low_of(kind)) + " " + str(high_of(kind))


def fraction_text(fraction):
    if fraction[1] == 1:
        return str(fraction[0])
    return str(fraction[0]) + "/" + str(fraction[1])


def expression_text(expression, values, functions):
    """An expression as it's written; values and functions have by name what is written for it."""
    if expression.form == "number":
        return str(expression.number)
    if expression.form == "truth":
        return expression.word
    if expression.form == "name":
        return values[expression.word]
    # Any other word before a bracket is reserved or an operation's: no name, even if a let is called so.
    word = functions[expression.word] if expression.form == "call" else expression.word
    return word + "(" + ", ".join(texts_in_brackets(expression, values, functions)) + ")"


def texts_in_brackets(expression, values, functions):
    parts = [expression_text(part, values, functions) for part in expression.parts]
    fractions = [fraction_text(fraction) for fraction in expression.fractions]
    if expression.form == "uniform":
        return [str(low_of(expression.bounds)), str(high_of(expression.bounds))]
    if expression.form == "pick":
        return [part + " : " + weight for part, weight in zip(parts, fractions)]
    return fractions + parts
