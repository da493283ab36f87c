"""The answers that the document works out."""

import unittest

from helper import FUNS, LETS, RAIN, SIZES, TELLS, ProgramCase, asked_of, kind_answer, load_answer, shown_text


class Worked(ProgramCase):
    def test_load_takes_the_program(self):
        self.assert_taken(RAIN)

    def test_shown_gives_it_back_byte_for_byte(self):
        self.assertEqual(shown_text(RAIN), RAIN)

    def test_sizes(self):
        self.assertEqual(asked_of(RAIN, [SIZES]), [[5, 4, 1, 2, 2]])

    def test_lets(self):
        self.assertEqual(asked_of(RAIN, [LETS, 3], [LETS, 2]), [
            [1, 5, 103, 114, 97, 100, 101, 1, 1, 10, 1, 1, 0],
            [1, 4, 115, 101, 101, 110, 0, 1, 1, 1, 0],
        ])

    def test_the_other_lets(self):
        self.assertEqual(asked_of(RAIN, [LETS, 0], [LETS, 1]), [
            [1, 4, 114, 97, 105, 110, 0, 0, 0],
            [1, 5, 100, 114, 111, 112, 115, 1, 0, 9, 1, 0, 0],
        ])

    def test_funs(self):
        self.assertEqual(asked_of(RAIN, [FUNS, 0]), [[1, 5, 110, 111, 105, 115, 121, 1, 1, 98, 0, 0, 0, 0]])

    def test_kind(self):
        self.assertEqual(kind_answer(RAIN, "sub(grade, drops)"), [1, 1, -8, 10])
        self.assertEqual(kind_answer(RAIN, "add(rain, 1)"), [0, 8, 4])
        self.assertEqual(kind_answer(RAIN, "mul(drops, 8)"), [0, 9, 0])
        self.assertEqual(kind_answer(RAIN, "noisy(1)"), [0, 8, 6])
        self.assertEqual(kind_answer(RAIN, "pick(1 : 0, 2 : 0)"), [0, 11, 0])
        self.assertEqual(kind_answer(RAIN, "uniform(0, 64)"), [0, 7, 11])

    def test_kinds_of_drops_and_grade(self):
        self.assertEqual(kind_answer(RAIN, "drops"), [1, 1, 0, 9])
        self.assertEqual(kind_answer(RAIN, "grade"), [1, 1, 1, 10])

    def test_tells(self):
        self.assertEqual(asked_of(RAIN, [TELLS]), [[2, 0, 3]])

    def test_faulty_texts(self):
        self.assertEqual(load_answer("chance P let x = 3 ; tell y"), [0, 6, 26])
        self.assertEqual(load_answer("chance P tell x"), [0, 3, 9])


if __name__ == "__main__":
    unittest.main()
