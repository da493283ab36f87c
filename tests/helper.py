"""What the tests share: handing calls in, taking answers apart, and texts made to measure."""

import unittest

from lotprograms.programs import answers

LOAD, SHOWN, SIZES, LETS, FUNS, KIND, POINTS, TELLS, PLAIN, SAME = range(10)

RAIN = """\
chance Rain
budget 2
def noisy(b flag) flag = if(b, flip(9/10), flip(1/10)) ;
let rain = flip(1/5) ;
let drops num 0 9 = if(rain, uniform(1, 6), 0) ;
let seen = noisy(lt(2, drops)) ;
observe or(seen, flip(1/100)) ;
let grade = pick(1 : 1, add(drops, 1) : 1/2, 3 : 0) ;
tell rain, grade
"""


def as_bytes(text):
    return list(text.encode("latin-1")) if isinstance(text, str) else list(text)


def with_text(call, text):
    return [call, len(as_bytes(text))] + as_bytes(text)


def loading(text):
    return with_text(LOAD, text)


def taken_apart(numbers):
    """The answers, a list each."""
    found = []
    at = 0
    while at < len(numbers):
        count = numbers[at]
        assert at + 1 + count <= len(numbers), "an answer is cut off"
        found.append(numbers[at + 1:at + 1 + count])
        at += 1 + count
    return found


def asked(*calls):
    """The answers to these calls, each a list of numbers, on one new object."""
    return taken_apart(answers([number for call in calls for number in call]))


def load_answer(text):
    return asked(loading(text))[0]


def asked_of(text, *calls):
    """The answers to the calls behind a load that must go well."""
    found = asked(loading(text), *calls)
    assert found[0] == [1], (text, found[0])
    return found[1:]


def told_text(text, call):
    answer = asked_of(text, [call])[0]
    assert answer[0] == len(answer) - 1
    return bytes(answer[1:]).decode("ascii")


def shown_text(text):
    return told_text(text, SHOWN)


def plain_text(text):
    return told_text(text, PLAIN)


def kind_answer(held, text):
    return asked_of(held, with_text(KIND, text))[0]


def same_answer(held, text):
    return asked_of(held, with_text(SAME, text))[0]


def named(word):
    """A name as it stands in an answer."""
    return [len(word)] + as_bytes(word)


def let_kind(text, number):
    """The kind that lets tells, () for flag or (L, H)."""
    answer = asked_of(text, [LETS, number])[0]
    kind = answer[2 + answer[1]:]
    return () if kind[0] == 0 else (kind[1], kind[2])


def program(expression):
    """A program with just one let, of this expression."""
    return "chance P let x = " + expression + " ; tell x"


def nested(opening, times, inmost, closing=")"):
    return opening * times + inmost + closing * times


def long_form(size):
    """A one form of so many bytes, from 4000 to 5000; it shrinks by hundreds without the blanks behind commas."""
    depths = [14] * 30
    number = 0
    while size - len(form_of_depths("P", depths)) >= len("max(1, )"):
        depths[number % 30] += 1
        number += 1
    title = "P" * (1 + size - len(form_of_depths("P", depths)))
    return form_of_depths(title, depths)


def form_of_depths(title, depths):
    rows = ["let x%d = %s ;\n" % (number + 10, nested("max(1, ", depth, "1")) for number, depth in enumerate(depths)]
    return "chance " + title + "\n" + "".join(rows) + "tell x10\n"


def without_blanks(text):
    return text.replace(", ", ",")


class ProgramCase(unittest.TestCase):
    """In a text that is handed to these, a ^ marks the place and is taken out."""

    def parted(self, marked):
        """The text without the mark, and the place."""
        data = as_bytes(marked)
        self.assertEqual(data.count(94), 1, "one place must be marked")
        place = data.index(94)
        return data[:place] + data[place + 1:], place

    def assert_fault(self, code, marked):
        text, place = self.parted(marked)
        self.assertEqual(load_answer(text), [0, code, place], marked)

    def assert_kind_fault(self, held, code, marked):
        text, place = self.parted(marked)
        self.assertEqual(kind_answer(held, text), [0, code, place], marked)

    def assert_taken(self, text):
        self.assertEqual(load_answer(text), [1], text)
