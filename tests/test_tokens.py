"""Texts, blanks and tokens: faults 1 and 2."""

import unittest

from helper import ProgramCase, load_answer, program, shown_text

SHORT = "chance P let x = 3 ; tell x"


def filled(size):
    return SHORT + " " * (size - len(SHORT))


class Length(ProgramCase):
    def test_4096_bytes_are_taken(self):
        self.assert_taken(filled(4096))

    def test_4097_bytes_are_too_many(self):
        self.assertEqual(load_answer(filled(4097)), [0, 1, 4096])

    def test_8192_bytes_are_too_many(self):
        self.assertEqual(load_answer(filled(8192)), [0, 1, 4096])

    def test_nothing_else_is_looked_at(self):
        self.assertEqual(load_answer("$" * 4097), [0, 1, 4096])

    def test_the_empty_text_ends_at_0(self):
        self.assertEqual(load_answer(""), [0, 3, 0])

    def test_blanks_alone_end_behind_them(self):
        self.assertEqual(load_answer(" \t\n# no program"), [0, 3, 15])


class Blanks(ProgramCase):
    def test_blank_tab_and_row_end(self):
        self.assertEqual(shown_text("\tchance\nP\t\tlet x=3;\n\n tell x"), "chance P\nlet x = 3 ;\ntell x\n")

    def test_remark_up_to_the_row_end(self):
        self.assert_taken("chance P # what $ ^ stands here is blank # too\nlet x = 3 ; tell x")

    def test_remark_up_to_the_end_of_the_text(self):
        self.assert_taken(SHORT + " # let y = $ ;")
        self.assert_taken(SHORT + "#")

    def test_remark_of_any_bytes(self):
        self.assert_taken(b"#" + bytes(b for b in range(256) if b != 10) + b"\n" + SHORT.encode())

    def test_remark_right_behind_a_word_ends_it(self):
        self.assert_taken("chance#\nP#x\nlet x = 3 ; tell x#x")

    def test_byte_13_is_no_blank(self):
        self.assert_fault(2, "chance P^\r\nlet x = 3 ; tell x")

    def test_byte_13_in_a_remark(self):
        self.assert_taken("chance P # \r\nlet x = 3 ; tell x")

    def test_other_white_bytes_are_no_blanks(self):
        for sign in "\x00\x0b\x0c\x1f\x7f\x85\xa0":
            self.assert_fault(2, "chance ^" + sign + "P let x = 3 ; tell x")


class Words(ProgramCase):
    def test_16_bytes(self):
        self.assert_taken("chance a23456789b123456 let x = 3 ; tell x")

    def test_17_bytes(self):
        self.assert_fault(2, "chance ^a23456789b1234567 let x = 3 ; tell x")

    def test_a_reserved_word_is_no_beginning(self):
        self.assert_taken("chance chancel let lets = 3 ; tell lets")

    def test_great_and_small_letters_are_unlike(self):
        self.assert_taken("chance Chance let x = 1 ; let X = 2 ; let Let = true ; tell x, X, Let")
        self.assert_fault(3, "^Chance P let x = 3 ; tell x")
        self.assert_fault(6, "chance P let x = 3 ; tell ^X")

    def test_ends_of_the_letters(self):
        self.assert_taken("chance AZaz09 let x = 3 ; tell x")
        for sign in "@[`{":
            for_sign = 3 if sign in "[{" else 2
            self.assert_fault(for_sign, "chance P^" + sign + " let x = 3 ; tell x")

    def test_no_underscore_and_no_letter_beyond(self):
        self.assert_fault(2, "chance a^_b let x = 3 ; tell x")
        self.assert_fault(2, "chance a^\xe9 let x = 3 ; tell x")


class Numbers(ProgramCase):
    def test_leading_zeros(self):
        self.assert_fault(2, program("^007"))
        self.assert_fault(2, program("^00"))
        self.assert_fault(2, program("^01"))
        self.assert_fault(2, program("^-01"))
        self.assert_taken(program("0"))

    def test_minus_zero(self):
        self.assert_fault(2, program("^-0"))
        self.assert_fault(2, program("^-00"))

    def test_12ab_is_two_tokens(self):
        self.assert_fault(3, program("12^ab"))
        self.assert_taken("chance P budget 12let x = 3 ; tell x")
        self.assert_fault(2, "chance P budget ^007let x = 3 ; tell x")

    def test_a_minus_1_is_two_tokens(self):
        self.assert_fault(3, program("a^-1"))
        self.assert_fault(3, program("1^-1"))
        self.assert_taken("chance P let x num-1 1=1;tell x")
        self.assert_taken("chance P let x num-5-1=-3;tell x")

    def test_greatest_number(self):
        self.assert_taken(program("flip(1/1000000000)"))
        self.assert_taken(program("weigh(1000000000, 1)"))
        self.assert_fault(2, program("flip(1/^1000000001)"))
        self.assert_fault(2, program("weigh(^1000000001, 1)"))
        self.assert_fault(2, program("weigh(^9999999999, 1)"))
        self.assert_fault(2, program("weigh(^10000000000, 1)"))

    def test_least_number(self):
        self.assert_fault(7, program("weigh(^-1000000000, 1)"))
        self.assert_fault(2, program("weigh(^-1000000001, 1)"))

    def test_thousands_of_digits(self):
        self.assert_fault(2, program("^" + "9" * 4000))

    def test_minus_alone(self):
        self.assert_fault(2, program("^- 1"))
        self.assert_fault(2, program("^--1"))
        self.assert_fault(2, program("^-a"))
        self.assert_fault(2, SHORT + " ^-")


class Signs(ProgramCase):
    def test_signs_that_are_tokens_but_stand_nowhere(self):
        for sign in ("{", "}", "[", "]", "|", "->", "=", ",", ";", ":", "/", "(", ")"):
            self.assert_fault(3, "chance ^" + sign + " let x = 3 ; tell x")

    def test_arrow_is_one_token(self):
        self.assert_fault(3, SHORT + " ^->")
        self.assert_fault(2, SHORT + " ->^>")

    def test_other_bytes_are_none(self):
        for sign in "!\"$%&'*+.<>?@\\_`~\x00\x80\xff":
            self.assert_fault(2, SHORT + " ^" + sign)
        self.assertEqual(load_answer(SHORT + "^"), [0, 2, len(SHORT)])

    def test_tokens_without_blanks(self):
        self.assertEqual(
            shown_text("chance P def f(a flag,b num 0 1)flag=a;let x=pick(1:1,2:1/2);tell x"),
            "chance P\ndef f(a flag, b num 0 1) flag = a ;\nlet x = pick(1 : 1, 2 : 1/2) ;\ntell x\n")


if __name__ == "__main__":
    unittest.main()
