"""The calls plain and same: names by number, and programs that are the same but for names."""

import re
import unittest

from helper import (
    FUNS, KIND, LETS, PLAIN, POINTS, RAIN, SAME, SHOWN, SIZES, TELLS,
    ProgramCase, as_bytes, asked, asked_of, load_answer, loading, long_form, nested, plain_text, program, same_answer,
    shown_text, with_text, without_blanks,
)

PLAIN_RAIN = """\
chance P
budget 2
def f0(a0 flag) flag = if(a0, flip(9/10), flip(1/10)) ;
let x0 = flip(1/5) ;
let x1 num 0 9 = if(x0, uniform(1, 6), 0) ;
let x2 = f0(lt(2, x1)) ;
observe or(x2, flip(1/100)) ;
let x3 = pick(1 : 1, add(x1, 1) : 1/2, 3 : 0) ;
tell x0, x3
"""

# Lets, functions, parameters and the title share their names here.
SHARED = """\
chance a
def b(b flag, a num 0 9) flag = if(b, lt(a, 3), a(b)) ;
def a(b flag) flag = b(b, 1) ;
def add2(add flag, x1 flag, f0 flag, P flag) flag = and(and(P, f0), or(x1, add)) ;
let b = a(true) ;
let x0 flag = b(b, 5) ;
let add = add(1, 2) ;
observe add2(x0, b, a(x0), b(x0, add)) ;
let a = add(add, add) ;
tell a, x0
"""

PLAIN_SHARED = """\
chance P
def f0(a0 flag, a1 num 0 9) flag = if(a0, lt(a1, 3), f1(a0)) ;
def f1(a0 flag) flag = f0(a0, 1) ;
def f2(a0 flag, a1 flag, a2 flag, a3 flag) flag = and(and(a3, a2), or(a1, a0)) ;
let x0 = f1(true) ;
let x1 flag = f0(x0, 5) ;
let x2 = add(1, 2) ;
observe f2(x1, x0, f1(x1), f0(x1, x2)) ;
let x3 = add(x2, x2) ;
tell x3, x1
"""

# Names by number, but given the wrong way round.
CROSSED = """\
chance Q
def f1(a1 flag, a0 num 0 1) flag = f0(a1, a0) ;
def f0(a0 flag, a1 num 0 1) flag = f1(a0, a1) ;
let x1 = f1(true, 0) ;
let x0 = f0(x1, 1) ;
tell x1, x0
"""

PLAIN_CROSSED = """\
chance P
def f0(a0 flag, a1 num 0 1) flag = f1(a0, a1) ;
def f1(a0 flag, a1 num 0 1) flag = f0(a0, a1) ;
let x0 = f0(true, 0) ;
let x1 = f1(x0, 1) ;
tell x0, x1
"""

ONE_LETTER = "abcdefghijklmnopqrstuvwxyzABCDEF"
BY_NUMBER = ["x%d" % k for k in range(32)]


def many_lets(names):
    """One let for each name, each but the first mentioning the one before, the last one told."""
    rows = ["let %s = 1 ;" % names[0]]
    rows += ["let %s = %s ;" % (name, before) for before, name in zip(names, names[1:])]
    return "\n".join(["chance P"] + rows + ["tell " + names[-1], ""])


def growing(names, depths, digits):
    """A one form of 32 lets, in which the one number 14 is mentioned often."""
    rows = ["let %s = weigh(%d, 1) ;" % (names[0], 10 ** (digits - 1))]
    rows += ["let %s = 1 ;" % name for name in names[1:15]]
    rows += ["let %s = %s ;" % (name, nested("max(" + names[14] + ", ", depth, names[14]))
             for name, depth in zip(names[15:], depths)]
    return "\n".join(["chance P"] + rows + ["tell " + names[14], ""])


def with_plain_of(size):
    """A program with short names, and it with its names by number, which then has so many bytes."""
    depths = [18] * 17
    number = 0
    while size - len(growing(BY_NUMBER, depths, 1)) >= len("max(x14, )"):
        depths[number % 17] += 1
        number += 1
    digits = 1 + size - len(growing(BY_NUMBER, depths, 1))
    return growing(ONE_LETTER, depths, digits), growing(BY_NUMBER, depths, digits)


class Plain(ProgramCase):
    def test_the_worked_program(self):
        self.assertEqual(plain_text(RAIN), PLAIN_RAIN)
        self.assertEqual(asked_of(RAIN, [PLAIN])[0], [len(PLAIN_RAIN)] + as_bytes(PLAIN_RAIN))

    def test_names_that_are_shared(self):
        self.assertEqual(plain_text(SHARED), PLAIN_SHARED)
        self.assertEqual(shown_text(SHARED), SHARED)

    def test_names_by_number_the_wrong_way_round(self):
        self.assertEqual(plain_text(CROSSED), PLAIN_CROSSED)

    def test_names_by_number_already(self):
        for text in (PLAIN_RAIN, PLAIN_SHARED, PLAIN_CROSSED):
            self.assertEqual(plain_text(text), text)
            self.assertEqual(plain_text(text.replace("chance P", "chance Other")), text)
            self.assertEqual(shown_text(text.replace("chance P", "chance Other")), text.replace("chance P", "chance Other"))

    def test_ten_lets_and_more(self):
        for count in (1, 10, 11, 12, 32):
            wanted = many_lets(["x%d" % k for k in range(count)])
            self.assertEqual(plain_text(many_lets(["name%dlet" % k for k in range(count)])), wanted)
            self.assertEqual(plain_text(many_lets(["x%d" % (count - k) for k in range(count)])), wanted)

    def test_observes_take_no_number(self):
        text = "chance Z observe true ; let p = 1 ; observe eq(p, p) ; let q = p ; observe false ; let r = q ; tell r, p"
        self.assertEqual(plain_text(text), "chance P\nobserve true ;\nlet x0 = 1 ;\nobserve eq(x0, x0) ;\nlet x1 = x0 ;\n"
                                           "observe false ;\nlet x2 = x1 ;\ntell x2, x0\n")

    def test_parameters_are_counted_in_each_function_anew(self):
        text = ("chance Z def g(p flag, q flag) flag = q ; def h() flag = true ; def i(q flag, r num 0 1, p flag) flag = p ; "
                "let y = 1 ; tell y")
        self.assertEqual(plain_text(text), "chance P\ndef f0(a0 flag, a1 flag) flag = a1 ;\ndef f1() flag = true ;\n"
                                           "def f2(a0 flag, a1 num 0 1, a2 flag) flag = a2 ;\nlet x0 = 1 ;\ntell x0\n")

    def test_eight_functions_that_call_later_ones(self):
        text = "chance Z " + "".join("def g%s() flag = g%s() ; " % (a, b) for a, b in zip("hgfedcba", "gfedcbah"))
        wanted = "chance P\n" + "".join("def f%d() flag = f%d() ;\n" % (k, (k + 1) % 8) for k in range(8))
        self.assertEqual(plain_text(text + "let y = ga() ; tell y"), wanted + "let x0 = f7() ;\ntell x0\n")

    def test_inside_every_form(self):
        text = ("chance Z def g(t flag) flag = pick(t : 2/4, not(t) : 0, flip(2/6) : 4/2) ; let t = true ; let n = 7 ; "
                "let y = if(g(t), given(t, n), weigh(6/4, min(n, uniform(0, 9)))) ; tell y, t")
        self.assertEqual(plain_text(text), "chance P\ndef f0(a0 flag) flag = pick(a0 : 1/2, not(a0) : 0, flip(1/3) : 2) ;\n"
                                           "let x0 = true ;\nlet x1 = 7 ;\n"
                                           "let x2 = if(f0(x0), given(x0, x1), weigh(3/2, min(x1, uniform(0, 9)))) ;\n"
                                           "tell x2, x0\n")

    def test_the_same_in_kinds_and_chances(self):
        for text in (RAIN, SHARED, CROSSED):
            calls = [[SIZES], [TELLS]]
            self.assertEqual(asked_of(plain_text(text), *calls), asked_of(text, *calls))
            self.assertEqual(asked_of(plain_text(text), [POINTS])[0][::2], asked_of(text, [POINTS])[0][::2])
            for number in range(asked_of(text, [SIZES])[0][1]):
                before, behind = asked_of(text, [LETS, number])[0], asked_of(plain_text(text), [LETS, number])[0]
                self.assertEqual(before[2 + before[1]:], behind[2 + behind[1]:])
            self.assertEqual([asked_of(text, [FUNS, k])[0][-1] for k in range(8)],
                             [asked_of(plain_text(text), [FUNS, k])[0][-1] for k in range(8)])

    def test_of_the_program_that_is_held(self):
        small = "chance S let y = 1 ; tell y"
        found = asked_of(RAIN, [PLAIN], loading("chance P"), [PLAIN], loading(small), [PLAIN], [SHOWN])
        plain_small = as_bytes("chance P\nlet x0 = 1 ;\ntell x0\n")
        self.assertEqual(found, [[len(PLAIN_RAIN)] + as_bytes(PLAIN_RAIN), [0, 3, 8], found[0], [1],
                                 [len(plain_small)] + plain_small, [28] + as_bytes("chance S\nlet y = 1 ;\ntell y\n")])

    def test_while_no_program_is_held(self):
        self.assertEqual(asked([PLAIN], loading("chance"), [PLAIN]), [[-1], [0, 3, 6], [-1]])


class PlainLength(ProgramCase):
    def test_shorter_than_the_one_form(self):
        text = many_lets(["longestnameofall"[:15] + letter for letter in "abcdefgh"])
        self.assertLess(len(plain_text(text)), len(shown_text(text)))

    def test_4096_bytes(self):
        text, plain = with_plain_of(4096)
        self.assertEqual(len(plain), 4096)
        self.assertEqual(plain_text(text), plain)
        self.assertEqual(plain_text(plain), plain)
        self.assertEqual(same_answer(text, plain), [1])
        self.assertEqual(same_answer(plain, text), [1])

    def test_longer_than_a_text_may_be(self):
        for size in (4097, 4098, 4200):
            text, plain = with_plain_of(size)
            self.assertEqual(len(plain), size)
            self.assertEqual(shown_text(text), text)
            self.assertEqual(plain_text(text), plain)
            self.assertEqual(load_answer(plain), [0, 1, 4096])
            self.assertEqual(same_answer(text, plain), [-4])
            self.assertEqual(same_answer(text, without_blanks(plain)), [-4])
            self.assertEqual(same_answer(text, without_blanks(text).replace("chance P", "chance Q")), [1])
            self.assertEqual(same_answer(text, text.replace("tell o", "tell n")), [0])

    def test_taken_by_load_and_then_the_same(self):
        for text in (RAIN, SHARED, CROSSED, program("1"), long_form(4096), many_lets(list(ONE_LETTER))):
            plain = plain_text(text)
            self.assertLessEqual(len(plain), 4096)
            self.assertEqual(plain_text(plain), plain)
            self.assertEqual(shown_text(plain), plain)


HELD = """\
chance Held
budget 3
def cold(warm flag, deep num 0 9) flag = if(warm, lt(deep, 3), cold(flip(1/3), 4)) ;
def other(n num 0 9, m num 0 9) num 0 9 = min(n, m) ;
let first = uniform(0, 5) ;
let second num 0 9 = 2 ;
observe cold(true, first) ;
let third = other(first, second) ;
let fourth = pick(first : 1/2, second : 2) ;
tell third, first
"""

RENAMED = """
chance or # and blanks, remarks and fractions in another way
budget 3
def third(third flag, other num 0 9) flag = if(third, lt(other, 3), third(flip(2/6), 4)) ;
def cold(deep num 0 9, warm num 0 9) num 0 9 = min(deep, warm) ;
let cold=uniform(0,5);let x num 0 9=2;
observe third(true, cold) ;
let fourth = cold(cold, x) ;
let third = pick(cold : 3/6, x : 2/1) ;
tell fourth, cold"""

# What stands in HELD, and what makes another program of it.
UNLIKE = (
    ("budget 3", "budget 4"), ("budget 3\n", ""),
    ("uniform(0, 5)", "uniform(0, 6)"), ("uniform(0, 5)", "uniform(1, 5)"), ("= 2 ;", "= 3 ;"),
    ("lt(deep, 3)", "lt(deep, 4)"), ("flip(1/3)", "flip(1/4)"), ("first : 1/2", "first : 1/3"), (" : 2)", " : 0)"),
    ("second num 0 9", "second num 0 8"), ("second num 0 9 =", "second ="), ("first =", "first num 0 5 ="),
    ("deep num 0 9", "deep num 0 10"), ("num 0 9 = min", "num 0 10 = min"),
    ("lt(deep, 3)", "le(deep, 3)"), ("lt(deep, 3)", "lt(3, deep)"), ("min(n, m)", "max(n, m)"),
    ("min(n, m)", "min(m, n)"), ("min(n, m)", "min(n, n)"), ("other(first, second)", "other(second, first)"),
    ("other(first, second)", "min(first, second)"), ("pick(first", "pick(third"),
    ("pick(first : 1/2, second : 2)", "pick(second : 2, first : 1/2)"),
    ("pick(first : 1/2, second : 2)", "pick(first : 1/2, second : 2, 3 : 1)"),
    ("tell third, first", "tell first, third"), ("tell third, first", "tell third"),
    ("tell third, first", "tell third, second"), ("tell third, first", "tell third, first, second"),
    ("cold(true, first)", "cold(true, second)"), ("cold(true, first)", "cold(false, first)"),
    ("observe cold(true, first) ;\n", ""), ("observe cold", "let fifth = cold"),
    ("let third", "observe true ;\nlet third"), ("let third", "let fifth = 1 ;\nlet third"),
    ("other(n num 0 9, m num 0 9)", "other(m num 0 9, n num 0 9)"),
    ("let first", "let zero = 1 ;\nlet first"), ("def other", "def none() flag = true ;\ndef other"),
)

# A text with a fault of each code.
NO_PROGRAMS = {
    1: " " * 4097,
    2: "chance P let x = 3 ; tell x $",
    3: "chance P tell x",
    4: "chance P let x = f(1, 1, 1, 1, 1) ; tell x",
    5: "chance P let x = 3 ; let x = 3 ; tell x",
    6: "chance P let x = 3 ; tell y",
    7: "chance P budget 21 let x = 3 ; tell x",
    8: "chance P let x = not(1) ; tell x",
    9: "chance P let x = 5000 ; tell x",
    10: without_blanks(long_form(4097)),
    11: "chance P let x = pick(1 : 0, 2 : 0) ; tell x",
    12: "chance P def or() flag = true ; let x = 3 ; tell x",
    13: "chance P def f() flag = true ; let x = f(1) ; tell x",
    14: "chance P let x num 0 1 = 3 ; tell x",
}


class Same(ProgramCase):
    def test_with_itself(self):
        for text in (RAIN, SHARED, CROSSED, HELD, RENAMED, program("1")):
            self.assertEqual(same_answer(text, text), [1])

    def test_with_its_one_form_and_its_plain(self):
        for text in (RAIN, SHARED, CROSSED, HELD, RENAMED, program("1")):
            for other in (shown_text(text), plain_text(text)):
                self.assertEqual(same_answer(text, other), [1])
                self.assertEqual(same_answer(other, text), [1])

    def test_with_other_names(self):
        self.assertEqual(same_answer(HELD, RENAMED), [1])
        self.assertEqual(same_answer(RENAMED, HELD), [1])
        self.assertEqual(same_answer(RENAMED, plain_text(HELD)), [1])

    def test_other_names_of_each_sort(self):
        for word in ("Held", "cold", "other", "warm", "deep", "n", "m", "first", "second", "third", "fourth"):
            renamed = re.sub(r"\b" + word + r"\b", "new", HELD)
            self.assertNotEqual(renamed, HELD)
            self.assertEqual(same_answer(HELD, renamed), [1], renamed)

    def test_budget_0_is_none(self):
        self.assertEqual(same_answer(program("1"), program("1").replace("chance P", "chance Q budget 0")), [1])

    def test_unlike_programs(self):
        for before, behind in UNLIKE:
            self.assertIn(before, HELD)
            other = HELD.replace(before, behind, 1)
            self.assertEqual(load_answer(other), [1], other)
            self.assertEqual(same_answer(HELD, other), [0], (before, behind))
            self.assertEqual(same_answer(other, HELD), [0], (before, behind))
            self.assertEqual(same_answer(RENAMED, other), [0], (before, behind))

    def test_functions_in_another_order(self):
        rows = HELD.split("\n")
        other = "\n".join(rows[:2] + [rows[3], rows[2]] + rows[4:])
        self.assertEqual(same_answer(HELD, other), [0])

    def test_lets_in_another_order(self):
        rows = HELD.split("\n")
        other = "\n".join(rows[:4] + [rows[5], rows[4]] + rows[6:])
        self.assertEqual(same_answer(HELD, other), [0])

    def test_which_function_of_two_alike_is_called(self):
        text = "chance P def f() flag = true ; def g() flag = true ; let x = f() ; tell x"
        self.assertEqual(same_answer(text, text.replace("= f", "= g")), [0])
        self.assertEqual(same_answer(text, text.replace("f()", "h()")), [1])
        swapped = text.replace("f()", "h()").replace("g()", "f()").replace("h()", "g()")
        self.assertEqual(same_answer(text, swapped), [1])

    def test_no_program(self):
        for code, text in NO_PROGRAMS.items():
            self.assertEqual(load_answer(text)[:2], [0, code])
            self.assertEqual(same_answer(HELD, text), [-4], code)
        self.assertEqual(same_answer(HELD, ""), [-4])
        self.assertEqual(same_answer(HELD, HELD + ";"), [-4])
        self.assertEqual(same_answer(HELD, HELD + " " * 4096), [-4])

    def test_what_is_held_stays(self):
        calls = [[SHOWN], [SIZES], [LETS, 2], [FUNS, 1], [POINTS], [TELLS], [PLAIN], with_text(KIND, "first"),
                 with_text(SAME, RENAMED)]
        before = asked_of(HELD, *calls)
        for text in [HELD, RENAMED, RAIN, program("1"), "", " " * 8192] + list(NO_PROGRAMS.values()):
            self.assertEqual(asked_of(HELD, with_text(SAME, text), *calls)[1:], before)

    def test_of_the_program_that_is_held(self):
        found = asked_of(RAIN, with_text(SAME, HELD), loading(HELD), with_text(SAME, RENAMED), loading("chance"),
                         with_text(SAME, RENAMED), with_text(SAME, RAIN))
        self.assertEqual(found, [[0], [1], [1], [0, 3, 6], [1], [0]])

    def test_while_no_program_is_held(self):
        for text in [HELD, "", " " * 8192] + list(NO_PROGRAMS.values()):
            self.assertEqual(asked(with_text(SAME, text)), [[-1]])
        self.assertEqual(asked(with_text(SAME, HELD), loading("chance"), with_text(SAME, "$"), loading(HELD),
                               with_text(SAME, HELD)), [[-1], [0, 3, 6], [-1], [1], [1]])


if __name__ == "__main__":
    unittest.main()
