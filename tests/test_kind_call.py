"""The call kind: a text read as an expression and nothing behind it, of the program that is held."""

import unittest

from helper import (
    FUNS, KIND, LETS, PLAIN, POINTS, RAIN, SHOWN, SIZES, TELLS,
    ProgramCase, asked, asked_of, kind_answer, loading, nested, with_text,
)

# Functions that stand before and behind one another, and names that stand for several things.
HELD = """chance Title
def first(a num 0 9, only flag) flag = last(a, only) ;
def both() num -5 5 = 3 ;
def last(a num 0 9, b flag) flag = if(b, first(a, b), true) ;
let n = uniform(0, 9) ;
let wide num -20 40 = n ;
let t = flip(1/2) ;
let both = 7 ;
let add = true ;
observe t ;
let late = add(n, 1) ;
tell n
"""


class HeldCase(ProgramCase):
    def assert_kind(self, text, *kind):
        self.assertEqual(kind_answer(HELD, text), [1] + ([1, *kind] if kind else [0]), text)

    def assert_no_kind(self, code, marked):
        self.assert_kind_fault(HELD, code, marked)


class Right(HeldCase):
    def test_what_stands_alone(self):
        self.assert_kind("true")
        self.assert_kind("flip(0)")
        self.assert_kind("-1000", -1000, -1000)
        self.assert_kind("1000", 1000, 1000)
        self.assert_kind("uniform(-3, 60)", -3, 60)

    def test_all_lets_are_known(self):
        self.assert_kind("n", 0, 9)
        self.assert_kind("t")
        self.assert_kind("both", 7, 7)
        self.assert_kind("late", 1, 10)
        self.assert_kind("sub(late, n)", -8, 10)

    def test_a_let_has_its_written_kind(self):
        self.assert_kind("wide", -20, 40)
        self.assert_no_kind(9, "^add(wide, n)")
        self.assert_no_kind(14, "first(^wide, t)")

    def test_every_form(self):
        self.assert_kind("if(t, n, -1)", -1, 9)
        self.assert_kind("given(t, n)", 0, 9)
        self.assert_kind("weigh(3/2, t)")
        self.assert_kind("pick(1 : 0, n : 1, 12 : 1/2)", 0, 12)
        self.assert_kind("neg(n)", -9, 0)
        self.assert_kind("abs(sub(n, 5))", 0, 5)
        self.assert_kind("mul(n, -7)", -63, 0)
        self.assert_kind("min(n, 4)", 0, 4)
        self.assert_kind("max(n, 4)", 4, 9)
        self.assert_kind("not(or(lt(n, 1), and(le(n, 1), eq(t, t))))")

    def test_functions_from_first_to_last(self):
        self.assert_kind("first(n, t)")
        self.assert_kind("last(9, false)")
        self.assert_kind("last(0, first(9, last(1, true)))")

    def test_a_name_of_a_let_and_a_function(self):
        self.assert_kind("both()", -5, 5)
        self.assert_kind("sub(both, both())", 2, 12)

    def test_a_let_with_an_operations_word(self):
        self.assert_kind("if(add, add(n, 1), 0)", 0, 10)

    def test_blanks_and_remarks(self):
        self.assert_kind("\n\t n # and $ no more\n ", 0, 9)
        self.assert_kind("#\nadd#\n(#\nn#\n,#\n1#\n)#", 1, 10)

    def test_a_narrower_name_makes_no_wider_kind(self):
        for text in ("add(a, b)", "sub(a, b)", "mul(a, b)", "min(a, b)", "max(a, b)", "neg(a)", "abs(a)",
                     "if(true, a, b)", "pick(a : 1, b : 1)", "given(true, a)", "weigh(1, b)"):
            found = []
            for low, high in ((-5, 6), (-5, 3), (-1, 3), (0, 3), (1, 2), (2, 2)):
                held = "chance P let a = uniform(%d, %d) ; let b num -4 3 = a ; tell a" % (low, high)
                held = held if low >= -4 and high <= 3 else held.replace("= a", "= 1")
                found.append(kind_answer(held, text)[2:])
            for wide, narrow in zip(found, found[1:]):
                self.assertTrue(wide[0] <= narrow[0] <= narrow[1] <= wide[1], (text, found))


class LengthAndTokens(HeldCase):
    def test_4096_bytes(self):
        self.assert_kind("n" + " " * 4095, 0, 9)
        self.assert_no_kind(2, "n" + " " * 4094 + "^$")

    def test_4097_bytes(self):
        for size in (4097, 8192):
            self.assertEqual(kind_answer(HELD, "n" + " " * (size - 1)), [0, 1, 4096])
            self.assertEqual(kind_answer(HELD, "$" * size), [0, 1, 4096])

    def test_no_token(self):
        self.assert_no_kind(2, "^$")
        self.assert_no_kind(2, "nowhere(^007")
        self.assert_no_kind(2, "not(1) ^\r")
        self.assert_no_kind(2, "add(1, ^-0)")
        self.assert_no_kind(2, "^a23456789b1234567")
        self.assert_no_kind(2, "uniform(0, 64) ^1000000001")

    def test_a_long_expression_whose_own_form_would_be_longer(self):
        """Fault 10 is for programs alone."""
        text = "1"
        for level in range(3):
            text = "pick(" + ",".join([text + ":1"] * 8) + ")"
        self.assertLess(len(text), 4096)
        self.assertGreater(len(text.replace(":", " : ").replace(",", ", ")), 4096)
        self.assert_kind(text, 1, 1)


class Grammar(HeldCase):
    def test_nothing_at_all(self):
        self.assertEqual(kind_answer(HELD, ""), [0, 3, 0])

    def test_blanks_alone(self):
        self.assert_no_kind(3, " \n\t^")
        self.assert_no_kind(3, "#^")
        self.assert_no_kind(3, "  # true^")

    def test_something_behind(self):
        self.assert_no_kind(3, "n ^n")
        self.assert_no_kind(3, "n^;")
        self.assert_no_kind(3, "n^)")
        self.assert_no_kind(3, "1^-1")
        self.assert_no_kind(3, "12^ab")
        self.assert_no_kind(3, "true^(1)")
        self.assert_no_kind(3, "first(n, t) ^let")
        self.assert_no_kind(3, "add(nowhere, true) ^, 1")
        self.assert_no_kind(3, "n # behind\n^:")
        self.assert_no_kind(3, "1^/2")

    def test_no_expression(self):
        for word in ("let", "chance", "flag", "num", "tell", "observe", "table", "net", ")", "(", "=", "->"):
            self.assert_no_kind(3, "^" + word)
        self.assert_no_kind(3, "add(1^")
        self.assert_no_kind(3, "add(1, 2^")
        self.assert_no_kind(3, "neg(1^, 2)")
        self.assert_no_kind(3, "pick(1 : 1^)")
        self.assert_no_kind(3, "^chance P let x = 3 ; tell x")
        self.assert_no_kind(3, "^let x = 3 ;")

    def test_one_too_many(self):
        self.assert_no_kind(4, "first(1, 2, 3, 4, ^5)")
        self.assert_no_kind(3, "first(1, 2, 3, 4, ^)")
        self.assert_no_kind(4, "pick(" + "1 : 1, " * 8 + "^t : 1)")

    def test_24_and_25_deep(self):
        self.assert_kind(nested("neg(", 23, "n"), -9, 0)
        self.assert_no_kind(4, nested("neg(", 24, "^n"))
        self.assert_kind(nested("weigh(1, ", 23, "both()"), -5, 5)
        self.assert_no_kind(4, nested("weigh(1, ", 23, "neg(^n)"))
        self.assert_no_kind(4, "neg(" * 24 + "^")
        self.assert_no_kind(4, "neg(" * 24 + "^)")
        self.assert_no_kind(3, "neg(" * 23 + "^)")
        self.assert_no_kind(4, "neg(" * 24 + "^" + "neg(" * 900)

    def test_bounds(self):
        self.assert_no_kind(7, "uniform(0, ^64)")
        self.assert_no_kind(7, "uniform(^-1001, 0)")
        self.assert_no_kind(7, "flip(^3/2)")
        self.assert_no_kind(7, "flip(-1/^0)")
        self.assert_no_kind(3, "flip(-1/^;")
        self.assert_no_kind(7, "weigh(^-1, n)")
        self.assert_no_kind(7, "pick(1 : 1, 2 : ^-1/2)")


class Names(HeldCase):
    def test_unknown(self):
        self.assert_no_kind(6, "^nowhere")
        self.assert_no_kind(6, "add(n, ^N)")
        self.assert_no_kind(6, "^nowhere(n)")

    def test_parameters_functions_and_the_title_are_no_values(self):
        for word in ("a", "b", "only", "first", "last", "Title", "neg"):
            self.assert_no_kind(6, "eq(1, ^" + word + ")")

    def test_lets_and_the_title_are_no_functions(self):
        for word in ("n", "late", "Title"):
            self.assert_no_kind(6, "^" + word + "()")

    def test_number_of_arguments(self):
        self.assert_no_kind(13, "^first()")
        self.assert_no_kind(13, "^last(1)")
        self.assert_no_kind(13, "not(^first(1, t, t))")
        self.assert_no_kind(13, "^both(nowhere)")
        self.assert_no_kind(6, "first(^nowhere, last())")

    def test_weights(self):
        self.assert_no_kind(11, "^pick(1 : 0, 2 : 0)")
        self.assert_no_kind(11, "neg(^pick(nowhere : 0/3, first() : 0))")
        self.assert_no_kind(6, "pick(^nowhere : 0, pick(1 : 0, 2 : 0) : 1)")


class Kinds(HeldCase):
    def test_another_sort(self):
        self.assert_no_kind(8, "not(^n)")
        self.assert_no_kind(8, "add(^t, 1)")
        self.assert_no_kind(8, "eq(n, ^t)")
        self.assert_no_kind(8, "if(^n, 5000, 1)")
        self.assert_no_kind(8, "if(t, n, ^t)")
        self.assert_no_kind(8, "given(^n, 5000)")
        self.assert_no_kind(8, "pick(n : 1, ^t : 1)")
        self.assert_no_kind(8, "first(^t, 1)")

    def test_too_wide_or_out_of_the_ends(self):
        self.assert_no_kind(9, "^1001")
        self.assert_no_kind(9, "not(^-1001)")
        self.assert_no_kind(9, "^mul(n, 8)")
        self.assert_no_kind(9, "^if(t, n, 64)")
        self.assert_no_kind(9, "^pick(n : 1, 64 : 1, t : 1)")
        self.assert_no_kind(9, "neg(^add(n, 1000))")

    def test_not_within_a_parameters_kind(self):
        self.assert_no_kind(14, "first(^late, t)")
        self.assert_no_kind(14, "not(last(^-1, 1))")


class Order(HeldCase):
    """Each of these texts has a fault of the next group before that of the group that's told."""

    def test_groups(self):
        self.assertEqual(kind_answer(HELD, "$" + " " * 4096), [0, 1, 4096])
        self.assert_no_kind(2, "add(1 1 nowhere 5000 ^$")
        self.assert_no_kind(3, "add(nowhere, not(1)) ^n")
        self.assert_no_kind(4, "add(nowhere, first(5000, 1, 1, 1, ^1))")
        self.assert_no_kind(7, "add(nowhere, uniform(0, ^64), 5000)")
        self.assert_no_kind(6, "add(not(1), ^nowhere)")
        self.assert_no_kind(11, "add(5000, ^pick(1 : 0, 2 : 0))")
        self.assert_no_kind(13, "add(first(-1, t), ^both(1))")

    def test_the_grammar_from_left_to_right(self):
        self.assert_no_kind(7, "add(flip(^2), , first(1, 1, 1, 1, 1))")
        self.assert_no_kind(3, "add(^, flip(2), first(1, 1, 1, 1, 1))")
        self.assert_no_kind(4, "add(first(1, 1, 1, 1, ^1), flip(2), ,)")

    def test_names_from_left_to_right(self):
        self.assert_no_kind(6, "if(^nowhere, first(), pick(1 : 0, 2 : 0))")
        self.assert_no_kind(13, "if(^first(), nowhere, pick(1 : 0, 2 : 0))")
        self.assert_no_kind(11, "if(^pick(1 : 0, 2 : 0), nowhere, first())")

    def test_kinds_from_left_to_right(self):
        self.assert_no_kind(8, "and(not(^1), first(-1, t))")
        self.assert_no_kind(14, "and(first(^-1, t), not(1))")
        self.assert_no_kind(9, "and(eq(^5000, 1), not(1))")


class Held(HeldCase):
    def test_nothing_of_what_is_held_changes(self):
        calls = [[SHOWN], [SIZES], [LETS, 0], [LETS, 5], [FUNS, 2], [POINTS], [TELLS], [PLAIN], with_text(KIND, "late")]
        before = asked_of(HELD, *calls)
        for text in ("n", "first(n, t)", "chance P let x = 3 ; tell x", "$", "", "^pick(1 : 0, 2 : 0)", " " * 5000):
            self.assertEqual(asked_of(HELD, with_text(KIND, text), *calls)[1:], before)

    def test_names_of_an_earlier_program_are_gone(self):
        found = asked_of(HELD, loading("chance P let x = 3 ; tell x"), with_text(KIND, "n"), with_text(KIND, "both()"),
                         with_text(KIND, "x"))
        self.assertEqual(found, [[1], [0, 6, 0], [0, 6, 0], [1, 1, 3, 3]])

    def test_a_faulty_load_leaves_its_names(self):
        found = asked_of(HELD, loading("chance P let n = true ; let n = 1 ; tell n"), with_text(KIND, "n"))
        self.assertEqual(found, [[0, 5, 28], [1, 1, 0, 9]])

    def test_while_no_program_is_held(self):
        for text in ("1", "", "$", "nowhere", "not(1)", " " * 5000):
            self.assertEqual(asked(with_text(KIND, text)), [[-1]])
            self.assertEqual(asked(loading("chance P"), with_text(KIND, text)), [[0, 3, 8], [-1]])

    def test_every_let_of_the_worked_program(self):
        calls = [with_text(KIND, name) for name in ("rain", "drops", "seen", "grade", "Rain", "b", "noisy")]
        self.assertEqual(asked_of(RAIN, *calls), [[1, 0], [1, 1, 0, 9], [1, 0], [1, 1, 1, 10]] + [[0, 6, 0]] * 3)


if __name__ == "__main__":
    unittest.main()
