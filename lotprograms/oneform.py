"""The one form of a program."""

from lotprograms.kinds import FLAG, high_of, low_of
from lotprograms.parts import Let


def one_form(program):
    """The bytes of a program's one form."""
    rows = ["chance " + program.title]
    if program.budget != 0:
        rows.append("budget " + str(program.budget))
    for function in program.functions:
        rows.append(function_text(function))
    for statement in program.statements:
        rows.append(statement_text(statement))
    rows.append("tell " + ", ".join([token.word for token in program.told]))
    return [ord(sign) for sign in "\n".join(rows) + "\n"]


def function_text(function):
    parameters = ", ".join([p.name + " " + kind_text(p.kind) for p in function.parameters])
    head = "def " + function.name + "(" + parameters + ") " + kind_text(function.kind)
    return head + " = " + expression_text(function.body) + " ;"


def statement_text(statement):
    if not isinstance(statement, Let):
        return "observe " + expression_text(statement.expression) + " ;"
    head = "let " + statement.name
    if statement.written is not None:
        head += " " + kind_text(statement.written)
    return head + " = " + expression_text(statement.expression) + " ;"


def kind_text(kind):
    if kind == FLAG:
        return "flag"
    return "num " + str(low_of(kind)) + " " + str(high_of(kind))


def fraction_text(fraction):
    if fraction[1] == 1:
        return str(fraction[0])
    return str(fraction[0]) + "/" + str(fraction[1])


def expression_text(expression):
    if expression.form == "number":
        return str(expression.number)
    if expression.form == "truth" or expression.form == "name":
        return expression.word
    return expression.word + "(" + ", ".join(texts_in_brackets(expression)) + ")"


def texts_in_brackets(expression):
    parts = [expression_text(part) for part in expression.parts]
    fractions = [fraction_text(fraction) for fraction in expression.fractions]
    if expression.form == "uniform":
        return [str(low_of(expression.bounds)), str(high_of(expression.bounds))]
    if expression.form == "pick":
        return [part + " : " + weight for part, weight in zip(parts, fractions)]
    return fractions + parts
