"""The calls points and tells: where chance comes in, and what is told."""

import unittest

from helper import (
    POINTS, RAIN, TELLS, ProgramCase, asked, asked_of, loading, program, shown_text,
)


def points_of(text):
    """The points of chance as pairs, taken from what points answers."""
    answer = asked_of(text, [POINTS])[0]
    assert len(answer) == 1 + 2 * answer[0], answer
    return list(zip(answer[1::2], answer[2::2]))


class Points(ProgramCase):
    def assert_points(self, marked, *ways):
        """In the text a ^ stands before each point of chance, and is taken out."""
        pieces = marked.split("^")
        places = [len("".join(pieces[:k])) for k in range(1, len(pieces))]
        self.assertEqual(points_of("".join(pieces)), list(zip(places, ways)), marked)
        self.assertEqual(len(places), len(ways))

    def test_the_worked_program(self):
        marked = RAIN
        for word in ("flip", "uniform", "pick"):
            marked = marked.replace(word, "^" + word)
        self.assert_points(marked, 2, 2, 2, 6, 2, 3)
        self.assertEqual(asked_of(RAIN, [POINTS])[0],
                         [6, 52, 2, 64, 2, 89, 2, 130, 6, 200, 2, 227, 3])

    def test_none_at_all(self):
        self.assertEqual(asked_of(program("weigh(1/2, given(true, if(false, 1, add(2, 3))))"), [POINTS]), [[0]])
        self.assertEqual(asked_of("chance flips let flip1 = 3 ; let picks = flip1 ; tell picks # flip(1)", [POINTS]), [[0]])

    def test_in_bodies_lets_and_observes(self):
        self.assert_points("chance P def f() flag = ^flip(1/2) ; def g() num 0 9 = ^uniform(0, 9) ; "
                           "let x = ^pick(f() : 1, true : 1) ; observe ^flip(1) ; let y = g() ; observe not(^flip(0)) ; "
                           "tell x", 2, 10, 2, 2, 2)

    def test_functions_that_are_never_called(self):
        self.assert_points("chance P def f() flag = ^flip(1/2) ; let x = 3 ; tell x", 2)

    def test_a_call_is_no_point(self):
        self.assert_points("chance P def f() flag = ^flip(1/2) ; let x = or(f(), f()) ; tell x", 2)

    def test_uniforms(self):
        self.assert_points(program("^uniform(5, 5)"), 1)
        self.assert_points(program("^uniform(0, 63)"), 64)
        self.assert_points(program("^uniform(-1000, -937)"), 64)
        self.assert_points(program("^uniform(-3, 3)"), 7)
        self.assert_points(program("^uniform(937, 1000)"), 64)

    def test_flips_that_always_fall_alike(self):
        self.assert_points(program("or(^flip(0), ^flip(1))"), 2, 2)

    def test_picks(self):
        for count in range(2, 9):
            ways = ", ".join(["1 : 0"] * (count - 1) + ["2 : 1"])
            self.assert_points(program("^pick(" + ways + ")"), count)

    def test_points_inside_the_ways_of_a_pick(self):
        self.assert_points(program("^pick(^uniform(1, 3) : 1, ^pick(1 : 1, ^uniform(0, 1) : 2, 3 : 1) : 1/2, "
                                   "if(^flip(1/2), 1, 2) : 0)"), 3, 3, 3, 2, 2)
        eight = "^pick(" + ", ".join(["^flip(1/2) : 1"] * 8) + ")"
        self.assert_points(program(eight), 8, *[2] * 8)

    def test_inside_every_form(self):
        self.assert_points("chance P def f(a flag, b flag) flag = a ; let x = f(^flip(1), not(and(^flip(1), "
                           "given(^flip(1), weigh(1, if(^flip(1), ^flip(1), eq(^uniform(0, 1), ^uniform(0, 2)))))))) ; "
                           "tell x", 2, 2, 2, 2, 2, 2, 3)

    def test_places_are_those_of_the_text_that_was_loaded(self):
        loose = "# flip(1)\n\tchance P\n\n let x=add( ^uniform\n(0,1) , # pick\n ^pick( 1:2/4,^uniform(2,4):1)) ;tell x"
        self.assert_points(loose, 2, 2, 3)
        text = loose.replace("^", "")
        form = shown_text(text)
        self.assertEqual([form[place:place + 4] for place, ways in points_of(form)], ["unif", "pick", "unif"])
        self.assertNotEqual(points_of(form), points_of(text))
        self.assertEqual([ways for place, ways in points_of(form)], [ways for place, ways in points_of(text)])

    def test_far_into_a_text(self):
        text = " " * 4000 + program("flip(1/2)")
        self.assertEqual(points_of(text), [(4017, 2)])

    def test_of_the_program_that_is_held(self):
        found = asked_of(RAIN, [POINTS], loading("  " + RAIN), [POINTS], loading("chance flip"), [POINTS],
                         loading(program("1")), [POINTS])
        self.assertEqual(found[2][1::2], [place + 2 for place in found[0][1::2]])
        self.assertEqual(found[2][2::2], found[0][2::2])
        self.assertEqual(found[3:], [[0, 3, 7], found[2], [1], [0]])

    def test_while_no_program_is_held(self):
        self.assertEqual(asked([POINTS], loading("chance"), [POINTS]), [[-1], [0, 3, 6], [-1]])


class Tells(ProgramCase):
    def test_one_name(self):
        self.assertEqual(asked_of(program("1"), [TELLS]), [[1, 0]])
        self.assertEqual(asked_of("chance P let a = 1 ; let b = 2 ; let c = 3 ; tell c", [TELLS]), [[1, 2]])

    def test_six_names_in_an_order_of_their_own(self):
        lets = "".join("let x%d = %d ; " % (k, k) for k in range(8))
        self.assertEqual(asked_of("chance P " + lets + "tell x5, x0, x7, x3, x6, x1", [TELLS]), [[6, 5, 0, 7, 3, 6, 1]])

    def test_observes_are_not_counted(self):
        text = "chance P observe true ; let a = 1 ; observe true ; let b = 2 ; observe true ; tell b, a"
        self.assertEqual(asked_of(text, [TELLS]), [[2, 1, 0]])

    def test_a_function_of_the_same_name(self):
        text = "chance x def x() flag = true ; def y() flag = true ; let y = 1 ; let x = 2 ; tell x"
        self.assertEqual(asked_of(text, [TELLS]), [[1, 1]])

    def test_32_lets(self):
        lets = "".join("let x%d = 1 ; " % k for k in range(32))
        self.assertEqual(asked_of("chance P " + lets + "tell x31, x10, x1", [TELLS]), [[3, 31, 10, 1]])

    def test_of_the_program_that_is_held(self):
        self.assertEqual(asked_of(RAIN, [TELLS], loading("$"), [TELLS], loading(program("1")), [TELLS]),
                         [[2, 0, 3], [0, 2, 0], [2, 0, 3], [1], [1, 0]])

    def test_while_no_program_is_held(self):
        self.assertEqual(asked([TELLS], loading("chance"), [TELLS]), [[-1], [0, 3, 6], [-1]])


if __name__ == "__main__":
    unittest.main()
