"""The rules for kinds: faults 8, 9 and 14, and the kinds that lets tells."""

import unittest

from helper import ProgramCase, let_kind, program


def over(low, high):
    return "uniform(%d, %d)" % (low, high)


class Found(ProgramCase):
    def assert_kind(self, expression, *kind):
        self.assertEqual(let_kind(program(expression), 0), kind, expression)

    def test_what_stands_alone(self):
        self.assert_kind("true")
        self.assert_kind("false")
        self.assert_kind("flip(1/2)")
        self.assert_kind("7", 7, 7)
        self.assert_kind("-1000", -1000, -1000)
        self.assert_kind("uniform(-3, 5)", -3, 5)

    def test_numbers_at_the_ends(self):
        self.assert_kind("1000", 1000, 1000)
        self.assert_fault(9, program("^1001"))
        self.assert_fault(9, program("^-1001"))
        self.assert_fault(9, program("^1000000000"))
        self.assert_fault(9, program("neg(^1001)"))

    def test_names(self):
        self.assertEqual(let_kind("chance P let x num 0 9 = 3 ; let y = x ; tell y", 1), (0, 9))
        self.assertEqual(let_kind("chance P let x = 3 ; let y = x ; tell y", 1), (3, 3))
        self.assertEqual(let_kind("chance P let x flag = true ; let y = x ; tell y", 1), ())

    def test_neg_and_abs(self):
        self.assert_kind("neg(" + over(-3, 5) + ")", -5, 3)
        self.assert_kind("neg(-1000)", 1000, 1000)
        self.assert_kind("abs(" + over(2, 5) + ")", 2, 5)
        self.assert_kind("abs(" + over(0, 5) + ")", 0, 5)
        self.assert_kind("abs(" + over(-5, -2) + ")", 2, 5)
        self.assert_kind("abs(" + over(-5, 0) + ")", 0, 5)
        self.assert_kind("abs(" + over(-3, 5) + ")", 0, 5)
        self.assert_kind("abs(" + over(-7, 5) + ")", 0, 7)
        self.assert_kind("abs(0)", 0, 0)

    def test_two_of_num(self):
        left = over(-3, 5)
        self.assert_kind("add(" + left + ", " + over(10, 12) + ")", 7, 17)
        self.assert_kind("sub(" + left + ", " + over(10, 12) + ")", -15, -5)
        self.assert_kind("mul(" + left + ", " + over(1, 3) + ")", -9, 15)
        self.assert_kind("mul(" + left + ", " + over(-2, 1) + ")", -10, 6)
        self.assert_kind("mul(" + over(-5, -3) + ", " + over(-2, -1) + ")", 3, 10)
        self.assert_kind("mul(" + over(-5, 0) + ", " + over(-2, 7) + ")", -35, 10)
        self.assert_kind("min(" + left + ", " + over(-1, 9) + ")", -3, 5)
        self.assert_kind("max(" + left + ", " + over(-1, 9) + ")", -1, 9)
        self.assert_kind("min(" + left + ", " + over(20, 30) + ")", -3, 5)
        self.assert_kind("max(" + left + ", " + over(20, 30) + ")", 20, 30)
        self.assert_kind("max(" + over(900, 910) + ", " + over(-900, -890) + ")", 900, 910)

    def test_flags(self):
        for word in ("lt", "le", "eq"):
            self.assert_kind(word + "(1, " + over(0, 9) + ")")
        self.assert_kind("eq(1000, -1000)")
        self.assert_kind("eq(true, flip(1/2))")
        self.assert_kind("and(true, false)")
        self.assert_kind("or(true, false)")
        self.assert_kind("not(true)")

    def test_if_given_weigh_pick(self):
        self.assert_kind("if(true, " + over(0, 3) + ", " + over(10, 11) + ")", 0, 11)
        self.assert_kind("if(true, 5, -5)", -5, 5)
        self.assert_kind("if(true, false, true)")
        self.assert_kind("given(true, " + over(0, 3) + ")", 0, 3)
        self.assert_kind("given(false, true)")
        self.assert_kind("weigh(1/2, " + over(0, 3) + ")", 0, 3)
        self.assert_kind("weigh(0, true)")
        self.assert_kind("pick(5 : 1, 1 : 0, 3 : 1/2)", 1, 5)
        self.assert_kind("pick(true : 1, flip(1/2) : 0)")

    def test_calls_have_the_functions_own_kind(self):
        text = "chance P def f(a num 0 9) num 0 50 = a ; def g() flag = true ; let x = f(3) ; let y = g() ; tell x"
        self.assertEqual(let_kind(text, 0), (0, 50))
        self.assertEqual(let_kind(text, 1), ())

    def test_a_narrower_name_makes_no_wider_kind(self):
        expressions = ("add(a, 3)", "sub(3, a)", "sub(a, a)", "mul(a, a)", "mul(a, -3)", "min(a, 4)", "max(a, 4)", "neg(a)",
                       "abs(a)", "if(true, a, 2)", "pick(1 : 1, a : 1)", "given(true, a)", "weigh(2, a)")
        narrower = ((-4, 5), (-4, 4), (-2, 4), (0, 4), (1, 3), (2, 2))
        for expression in expressions:
            kinds = [let_kind("chance P let a = %s ; let b = %s ; tell b" % (over(*ends), expression), 1)
                     for ends in narrower]
            for wide, narrow in zip(kinds, kinds[1:]):
                self.assertTrue(wide[0] <= narrow[0] <= narrow[1] <= wide[1], (expression, kinds))


class TooWide(ProgramCase):
    def test_add_and_sub(self):
        self.assert_taken(program("add(" + over(0, 32) + ", " + over(0, 31) + ")"))
        self.assert_fault(9, program("^add(" + over(0, 32) + ", " + over(0, 32) + ")"))
        self.assert_taken(program("sub(" + over(0, 32) + ", " + over(0, 31) + ")"))
        self.assert_fault(9, program("^sub(" + over(0, 32) + ", " + over(0, 32) + ")"))

    def test_out_of_the_ends(self):
        self.assert_taken(program("add(999, 1)"))
        self.assert_fault(9, program("^add(1000, 1)"))
        self.assert_taken(program("sub(-999, 1)"))
        self.assert_fault(9, program("^sub(-1000, 1)"))
        self.assert_fault(9, program("^mul(1000, 1000)"))
        self.assert_fault(9, program("^mul(-1000, 2)"))

    def test_mul(self):
        self.assert_taken(program("mul(" + over(0, 9) + ", 7)"))
        self.assert_fault(9, program("^mul(" + over(0, 8) + ", 8)"))

    def test_if(self):
        self.assert_taken(program("if(true, 0, 63)"))
        self.assert_fault(9, program("^if(true, 0, 64)"))
        self.assert_fault(9, program("^if(true, 1000, -1000)"))

    def test_pick(self):
        self.assert_taken(program("pick(0 : 1, 63 : 1, 20 : 1)"))
        self.assert_fault(9, program("^pick(0 : 1, 20 : 1, 64 : 1)"))
        self.assert_fault(9, program("^pick(0 : 1, -20 : 1, 44 : 1)"))

    def test_pick_as_soon_as_it_is_too_wide(self):
        self.assert_fault(9, program("^pick(0 : 1, 64 : 1, true : 1)"))
        self.assert_fault(8, program("pick(0 : 1, ^true : 1, 64 : 1)"))
        self.assert_fault(8, program("pick(0 : 1, 20 : 1, ^true : 1, 64 : 1)"))

    def test_inmost_first(self):
        self.assert_fault(9, program("add(^add(1000, 1), 1)"))
        self.assert_fault(9, program("if(true, 1, ^add(1000, 1))"))


class WrongSort(ProgramCase):
    def test_one_argument(self):
        self.assert_fault(8, program("not(^1)"))
        self.assert_fault(8, program("neg(^true)"))
        self.assert_fault(8, program("abs(^not(true))"))

    def test_two_arguments(self):
        for word in ("add", "sub", "mul", "min", "max", "lt", "le"):
            self.assert_fault(8, program(word + "(^true, 1)"))
            self.assert_fault(8, program(word + "(1, ^true)"))
            self.assert_fault(8, program(word + "(^true, true)"))
        for word in ("and", "or"):
            self.assert_fault(8, program(word + "(^1, true)"))
            self.assert_fault(8, program(word + "(true, ^1)"))
            self.assert_fault(8, program(word + "(^1, 1)"))

    def test_eq(self):
        self.assert_fault(8, program("eq(1, ^true)"))
        self.assert_fault(8, program("eq(true, ^1)"))

    def test_if(self):
        self.assert_fault(8, program("if(^1, 1, 2)"))
        self.assert_fault(8, program("if(true, 1, ^false)"))
        self.assert_fault(8, program("if(true, false, ^1)"))
        self.assert_fault(8, program("if(^1, add(true, 1), true)"))
        self.assert_fault(8, program("if(true, 1, add(1, ^true))"))

    def test_given_and_weigh(self):
        self.assert_fault(8, program("given(^1, 1)"))
        self.assert_fault(8, program("given(^1, 5000)"))
        self.assert_fault(9, program("given(true, ^5000)"))
        self.assert_fault(9, program("weigh(1, ^5000)"))

    def test_pick(self):
        self.assert_fault(8, program("pick(1 : 1, ^true : 1)"))
        self.assert_fault(8, program("pick(true : 1, true : 1, ^1 : 0)"))
        self.assert_fault(9, program("pick(1 : 1, true : 1, ^5000 : 1)"))

    def test_observe(self):
        self.assert_fault(8, "chance P let x = 3 ; observe ^x ; tell x")
        self.assert_fault(8, "chance P let x = 3 ; observe ^add(x, 1) ; tell x")
        self.assert_taken("chance P let x = 3 ; observe eq(x, 1) ; tell x")

    def test_arguments_are_looked_at_before_the_expression(self):
        self.assert_fault(9, program("add(true, ^5000)"))
        self.assert_fault(8, program("and(1, not(^1))"))


class HeldAgainst(ProgramCase):
    def test_let(self):
        self.assert_fault(8, "chance P let x flag = ^1 ; tell x")
        self.assert_fault(8, "chance P let x num 0 1 = ^true ; tell x")
        self.assert_fault(14, "chance P let x num 0 1 = ^2 ; tell x")
        self.assert_fault(14, "chance P let x num 0 1 = ^-1 ; tell x")
        self.assert_fault(14, "chance P let x num 0 5 = ^uniform(0, 6) ; tell x")
        self.assert_fault(14, "chance P let x num 0 5 = ^uniform(-1, 5) ; tell x")
        self.assert_taken("chance P let x num 0 5 = uniform(0, 5) ; tell x")
        self.assert_taken("chance P let x flag = true ; tell x")

    def test_the_written_kind_counts_from_then_on(self):
        self.assert_fault(14, "chance P let x num 0 5 = 1 ; let y num 0 4 = ^x ; tell x")
        self.assert_fault(9, "chance P let x num 0 50 = 1 ; let y = ^add(x, x) ; tell x")

    def test_body(self):
        start = "chance P def f(a num 0 9) "
        end = " ; let x = 3 ; tell x"
        self.assert_taken(start + "num 0 9 = a" + end)
        self.assert_fault(14, start + "num 0 8 = ^a" + end)
        self.assert_fault(14, start + "num 1 9 = ^a" + end)
        self.assert_fault(8, start + "flag = ^a" + end)
        self.assert_fault(8, start + "num 0 1 = ^lt(a, 1)" + end)
        self.assert_fault(9, start + "num 0 1 = ^mul(a, 9)" + end)

    def test_call(self):
        start = "chance P def f(a num 0 9, b flag) flag = b ; let x = "
        end = " ; tell x"
        self.assert_taken(start + "f(uniform(0, 9), true)" + end)
        self.assert_fault(8, start + "f(^true, true)" + end)
        self.assert_fault(8, start + "f(1, ^1)" + end)
        self.assert_fault(14, start + "f(^uniform(0, 10), true)" + end)
        self.assert_fault(14, start + "f(^-1, 1)" + end)
        self.assert_fault(8, start + "f(^true, 1)" + end)

    def test_all_arguments_are_looked_at_first(self):
        start = "chance P def f(a num 0 9, b flag) flag = b ; let x = "
        self.assert_fault(9, start + "f(true, ^5000) ; tell x")
        self.assert_fault(8, start + "f(10, not(^1)) ; tell x")

    def test_call_of_a_later_function(self):
        self.assert_fault(14, "chance P def f() num 0 1 = ^g() ; def g() num 0 2 = 1 ; let x = 3 ; tell x")
        self.assert_fault(8, "chance P def f() num 0 2 = g(^1) ; def g(a flag) num 0 2 = 1 ; let x = 3 ; tell x")


class Order(ProgramCase):
    def test_functions_before_statements_in_the_order_of_the_text(self):
        self.assert_fault(8, "chance P def f() flag = ^1 ; def g() num 0 1 = 2 ; let x = 5000 ; tell x")
        self.assert_fault(14, "chance P def f() num 0 1 = ^2 ; let x = 5000 ; observe 1 ; tell x")
        self.assert_fault(9, "chance P let x = ^5000 ; observe 1 ; let y flag = 1 ; tell x")
        self.assert_fault(8, "chance P let x = 500 ; observe ^1 ; let y = 5000 ; tell x")


if __name__ == "__main__":
    unittest.main()
