"""In which order faults are looked for: of two that a text has, the first alone is told."""

import unittest

from helper import ProgramCase, load_answer, long_form, without_blanks

# Each is a statement with the fault at the ^; behind it stands what makes the text whole again.
NAMES = {
    5: "let x = 3 ; let ^x = 3 ;",
    6: "let x = ^nowhere ;",
    11: "let x = ^pick(1 : 0, 2 : 0) ;",
    13: "let x = ^f(1) ;",
}
KINDS = {
    8: "let y = not(^1) ;",
    9: "let y = ^5000 ;",
    14: "let y num 0 1 = ^2 ;",
}
GRAMMAR = {
    3: "let z ^; ;",
    4: "let z = g(1, 1, 1, 1, ^1) ;",
    7: "let z = flip(^2) ;",
}
FUNCTION = "def f() flag = true ; "


def unmarked(statement):
    return statement.replace("^", "")


class Order(ProgramCase):
    def test_1_before_2(self):
        self.assertEqual(load_answer("$" + " " * 4096), [0, 1, 4096])
        self.assertEqual(load_answer("$" + " " * 4095), [0, 2, 0])

    def test_2_before_the_grammar(self):
        for statement in GRAMMAR.values():
            self.assert_fault(2, "chance P " + unmarked(statement) + " tell z ^$")
        self.assert_fault(2, "no program at all ^007")

    def test_2_before_names_kinds_and_10(self):
        for statement in list(NAMES.values()) + list(KINDS.values()):
            self.assert_fault(2, "chance P " + FUNCTION + unmarked(statement) + " tell x ^$")
        self.assert_fault(2, without_blanks(long_form(4300)) + "^$")

    def test_the_grammar_from_left_to_right(self):
        for code, first in GRAMMAR.items():
            for second in GRAMMAR.values():
                self.assert_fault(code, "chance P " + first + " " + unmarked(second) + " tell z")

    def test_the_grammar_before_names(self):
        for code, later in GRAMMAR.items():
            for earlier in NAMES.values():
                self.assert_fault(code, "chance P " + FUNCTION + unmarked(earlier) + " " + later + " tell x")
            self.assert_fault(code, "chance P def or() flag = true ; " + later + " tell x")

    def test_the_grammar_before_kinds_and_10(self):
        for code, later in GRAMMAR.items():
            for earlier in KINDS.values():
                self.assert_fault(code, "chance P " + unmarked(earlier) + " " + later + " tell y")
        self.assert_fault(3, without_blanks(long_form(4300)) + "^;")

    def test_names_in_the_order_of_the_text(self):
        for code, first in NAMES.items():
            for second in NAMES.values():
                later = unmarked(second).replace("x", "w")
                self.assert_fault(code, "chance P " + FUNCTION + first + " " + later + " tell x")
            self.assert_fault(12, "chance P def ^or() flag = true ; " + FUNCTION + unmarked(first) + " tell x")
        self.assert_fault(6, "chance P def f() flag = ^nowhere ; def or() flag = true ; let x = 3 ; tell x")

    def test_names_before_kinds(self):
        for code, later in NAMES.items():
            for earlier in KINDS.values():
                self.assert_fault(code, "chance P " + FUNCTION + unmarked(earlier) + " " + later + " tell x")
        for earlier in KINDS.values():
            self.assert_fault(6, "chance P " + unmarked(earlier) + " tell ^nowhere")
            self.assert_fault(5, "chance P " + unmarked(earlier) + " tell y, ^y")
        self.assert_fault(12, "chance P def f() flag = 1 ; def ^or() flag = true ; let x = 3 ; tell x")

    def test_names_before_10(self):
        for name in ("nowhere", "x10, x10"):
            text = without_blanks(long_form(4300))[:-len("x10\n")] + name
            self.assertEqual(load_answer(text), [0, 6, len(text) - 7] if name == "nowhere" else [0, 5, len(text) - 3])

    def test_kinds_in_the_order_of_the_text(self):
        for code, first in KINDS.items():
            for second in KINDS.values():
                later = unmarked(second).replace("y", "w")
                self.assert_fault(code, "chance P " + first + " " + later + " tell y")

    def test_kinds_before_10(self):
        for code, statement in KINDS.items():
            text = without_blanks(long_form(4300)).replace("tell", statement + " tell")
            self.assert_fault(code, text)


class Ten(ProgramCase):
    def test_4096_bytes_of_one_form(self):
        self.assert_taken(long_form(4096))
        self.assert_taken(without_blanks(long_form(4096)))

    def test_4097_bytes_of_one_form(self):
        self.assertEqual(load_answer(long_form(4097)), [0, 1, 4096])
        text = without_blanks(long_form(4097))
        self.assertLess(len(text), 4096)
        self.assertEqual(load_answer(text), [0, 10, 0])

    def test_a_long_one_form_from_a_text_of_4096_bytes(self):
        text = without_blanks(long_form(4300))
        self.assertLess(len(text), 4096)
        self.assertEqual(load_answer(text + " " * (4096 - len(text))), [0, 10, 0])

    def test_a_long_text_with_a_short_one_form(self):
        text = long_form(4096)
        remark = "#" + " " * (4095 - len(without_blanks(text)))
        self.assert_taken(without_blanks(text) + remark)


if __name__ == "__main__":
    unittest.main()
