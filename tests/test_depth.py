"""Expressions are at most 24 deep: fault 4."""

import unittest

from helper import ProgramCase, nested, program, shown_text

INSIDE_23 = "chance P def f() flag = true ; def g(a num 0 9) num 0 9 = a ; let x = " + "weigh(1, " * 23


class Depth(ProgramCase):
    def test_24_deep(self):
        text = program(nested("neg(", 23, "1"))
        self.assert_taken(text)
        self.assertIn(nested("neg(", 23, "1"), shown_text(text))

    def test_25_deep(self):
        self.assert_fault(4, program(nested("neg(", 24, "^1")))
        self.assert_fault(4, program(nested("add(1, ", 23, "add(^1, 1)")))
        self.assert_fault(4, program(nested("neg(", 800, "1").replace("neg(" * 24, "neg(" * 24 + "^", 1)))

    def test_every_form_goes_one_deeper(self):
        forms = (("neg(^", ")"), ("add(^1, ", ")"), ("add(^", ", 1)"), ("if(^true, ", ", 1)"), ("if(^true, 1, ", ")"),
                 ("given(^true, ", ")"), ("weigh(1, ^", ")"), ("pick(^1 : 1, ", " : 1)"), ("pick(^", " : 1, 1 : 1)"),
                 ("g(^", ")"), ("h(^1, ", ", 1)"))
        start = ("chance P def g(a num 0 60) num 0 9 = 1 ; "
                 "def h(a num 0 60, b num 0 60, c num 0 60) num 0 9 = 1 ; let x = ")
        for marked, closing in forms:
            opening = marked.replace("^", "")
            self.assert_taken(start + nested(opening, 23, "1", closing) + " ; tell x")
            self.assert_fault(4, start + nested(opening, 23, marked + "1" + closing, closing) + " ; tell x")

    def test_the_question_of_an_if_or_given_counts(self):
        for closing in (", true, true)", ", true)"):
            opening = "if(" if closing.count("true") == 2 else "given("
            self.assert_taken(program(nested(opening, 23, "true", closing)))
            self.assert_fault(4, program(nested(opening, 24, "^true", closing)))

    def test_where_the_text_ends_there(self):
        self.assert_fault(4, "chance P let x = " + "neg(" * 24 + "^")
        self.assert_fault(4, "chance P let x = " + "neg(" * 24 + "  # blank\n^")
        self.assert_fault(3, "chance P let x = " + "neg(" * 23 + "^")
        self.assert_fault(3, "chance P let x = " + "neg(" * 23 + "neg^")

    def test_a_token_there_that_begins_no_expression(self):
        for token in (")", ",", ";", "let", "flag", "->", "("):
            self.assert_fault(4, "chance P let x = " + "neg(" * 24 + "^" + token)
            self.assert_fault(3, "chance P let x = " + "neg(" * 23 + "^" + token)

    def test_what_has_no_expressions_in_it_may_stand_inside_23(self):
        for inmost in ("flip(1/2)", "uniform(0, 9)", "f()", "1", "true"):
            self.assert_taken(INSIDE_23 + inmost + ")" * 23 + " ; tell x")

    def test_what_has_expressions_in_it_may_not(self):
        for inmost in ("neg(^1)", "not(^true)", "eq(^1, 1)", "if(^true, 1, 1)", "given(^true, 1)", "weigh(1, ^1)",
                       "pick(^1 : 1, 2 : 1)", "g(^1)"):
            self.assert_fault(4, INSIDE_23 + inmost + ")" * 23 + " ; tell x")

    def test_what_stands_before_it_is_looked_at_first(self):
        self.assert_fault(7, INSIDE_23 + "weigh(^-1, 1)")
        self.assert_fault(3, INSIDE_23 + "weigh(1 ^1)")
        self.assert_fault(3, INSIDE_23 + "if ^true")
        self.assert_fault(3, INSIDE_23 + "pick^")

    def test_a_call_without_arguments_where_none_could_begin(self):
        self.assert_fault(4, INSIDE_23 + "f(^;")
        self.assert_fault(4, INSIDE_23 + "f(^")

    def test_bodies_and_observed_too(self):
        self.assert_taken("chance P def h() flag = " + nested("not(", 23, "true") + " ; let x = 1 ; tell x")
        self.assert_fault(4, "chance P def h() flag = " + nested("not(", 24, "^true") + " ; let x = 1 ; tell x")
        self.assert_taken("chance P observe " + nested("not(", 23, "true") + " ; let x = 1 ; tell x")
        self.assert_fault(4, "chance P observe " + nested("not(", 24, "^true") + " ; let x = 1 ; tell x")

    def test_a_fifth_argument_inside_23(self):
        self.assert_fault(4, "chance P let x = " + "neg(" * 22 + "f(1, 2, 3, 4, ^5")
        self.assert_fault(3, "chance P let x = " + "neg(" * 22 + "f(1, 2, 3, 4, ^)")


if __name__ == "__main__":
    unittest.main()
