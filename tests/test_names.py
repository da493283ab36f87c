"""The rules for names: faults 5, 6, 11, 12 and 13."""

import unittest

from helper import ProgramCase, program

TAIL = " let x = 3 ; tell x"
OPERATIONS = "neg abs not add sub mul min max lt le eq and or".split()


class FunctionNames(ProgramCase):
    def test_like_an_operation(self):
        for word in OPERATIONS:
            self.assert_fault(12, "chance P def ^" + word + "() flag = true ;" + TAIL)

    def test_twice(self):
        self.assert_fault(5, "chance P def f() flag = true ; def ^f(a flag) flag = a ;" + TAIL)

    def test_operation_twice_is_12(self):
        self.assert_fault(12, "chance P def ^or() flag = true ; def or() flag = true ;" + TAIL)

    def test_parameter_twice(self):
        self.assert_fault(5, "chance P def f(a flag, b flag, ^a num 0 1) flag = true ;" + TAIL)

    def test_parameter_of_another_function_or_like_an_operation(self):
        self.assert_taken("chance P def f(a flag, add num 0 1) flag = a ; def g(a flag) flag = a ;" + TAIL)

    def test_names_that_do_not_stand_in_one_anothers_way(self):
        self.assert_taken("chance f def f(f flag, x flag) flag = or(f, x) ; let x = true ; let f = f(x, x) ; tell f, x")

    def test_a_body_knows_its_parameters_alone(self):
        self.assert_fault(6, "chance P def f(a flag) flag = ^x ; let x = true ; tell x")
        self.assert_fault(6, "chance P def f(a flag) flag = a ; def g(b flag) flag = ^a ;" + TAIL)
        self.assert_fault(6, "chance P def f(a flag) flag = ^f ;" + TAIL)
        self.assert_fault(6, "chance P def f(a flag) flag = ^P ;" + TAIL)


class LetNames(ProgramCase):
    def test_twice(self):
        self.assert_fault(5, "chance P let x = 3 ; let ^x = 4 ; tell x")
        self.assert_fault(5, "chance P let x = 3 ; observe true ; let ^x = y ; tell x")

    def test_own_name_is_not_known(self):
        self.assert_fault(6, "chance P let x = ^x ; tell x")

    def test_later_ones_are_not_known(self):
        self.assert_fault(6, "chance P let y = ^x ; let x = 3 ; tell x")
        self.assert_fault(6, "chance P observe eq(^x, 3) ; let x = 3 ; tell x")

    def test_earlier_ones_are(self):
        self.assert_taken("chance P let x = 3 ; let y = x ; observe eq(x, y) ; tell y")

    def test_functions_parameters_and_the_title_are_no_values(self):
        self.assert_fault(6, "chance P def f(a flag) flag = a ; let x = ^f ; tell x")
        self.assert_fault(6, "chance P def f(a flag) flag = a ; let x = ^a ; tell x")
        self.assert_fault(6, "chance P let x = ^P ; tell x")


class ToldNames(ProgramCase):
    def test_unknown(self):
        self.assert_fault(6, "chance P let x = 3 ; tell x, ^y")
        self.assert_fault(6, "chance P def f() flag = true ; let x = 3 ; tell ^f")

    def test_twice(self):
        self.assert_fault(5, "chance P let x = 3 ; let y = 3 ; tell x, y, ^x")

    def test_the_first_of_two(self):
        self.assert_fault(6, "chance P let x = 3 ; tell ^y, x, x")
        self.assert_fault(5, "chance P let x = 3 ; tell x, ^x, y")
        self.assert_fault(6, "chance P let x = 3 ; tell ^y, y")

    def test_any_order(self):
        self.assert_taken("chance P let x = 3 ; let y = 3 ; let z = 3 ; tell z, x")


class Calls(ProgramCase):
    def test_unknown_function(self):
        self.assert_fault(6, program("^f(1)"))
        self.assert_fault(6, "chance P let f = 3 ; let x = ^f() ; tell x")
        self.assert_fault(6, "chance P def f(a flag) flag = ^a() ;" + TAIL)

    def test_number_of_arguments(self):
        function = "chance P def f(a num 0 9, b num 0 9) flag = true ; let x = "
        self.assert_taken(function + "f(1, 2) ; tell x")
        self.assert_fault(13, function + "^f() ; tell x")
        self.assert_fault(13, function + "^f(1) ; tell x")
        self.assert_fault(13, function + "^f(1, 2, 3) ; tell x")
        self.assert_fault(13, "chance P def f() flag = true ; let x = ^f(1) ; tell x")

    def test_the_call_before_its_arguments(self):
        self.assert_fault(6, program("^f(y)"))
        self.assert_fault(13, "chance P def f() flag = true ; let x = ^f(y) ; tell x")
        self.assert_fault(6, "chance P def f(a flag) flag = a ; let x = f(^y) ; tell x")
        self.assert_fault(13, "chance P def f(a flag) flag = a ; let x = f(^f()) ; tell x")

    def test_earlier_later_and_the_function_itself(self):
        self.assert_taken("chance P def f() flag = g() ; def g() flag = or(f(), g()) ;" + TAIL)
        self.assert_fault(13, "chance P def f() flag = ^g() ; def g(a flag) flag = a ;" + TAIL)
        self.assert_fault(13, "chance P def f() flag = ^f(1) ;" + TAIL)

    def test_of_two_functions_with_one_name_the_earlier_counts(self):
        self.assert_fault(5, "chance P def f() flag = g() ; def g() flag = f() ; def ^g(a flag) flag = a ;" + TAIL)
        self.assert_fault(13, "chance P def f() flag = ^g(1) ; def g() flag = f() ; def g(a flag) flag = a ;" + TAIL)


class Weights(ProgramCase):
    def test_all_0(self):
        self.assert_fault(11, program("^pick(1 : 0, 2 : 0)"))
        self.assert_fault(11, program("add(1, ^pick(1 : 0/5, 2 : 0, 3 : 0/1000000000))"))

    def test_one_above_0(self):
        self.assert_taken(program("pick(1 : 0, 2 : 1/1000000000)"))

    def test_before_its_ways(self):
        self.assert_fault(11, program("^pick(y : 0, f(1) : 0)"))
        self.assert_fault(6, program("pick(^y : 0, 2 : 1)"))
        self.assert_fault(11, program("pick(^pick(y : 0, 1 : 0) : 1, y : 1)"))

    def test_a_weigh_of_0_or_a_flip_of_0_is_none(self):
        self.assert_taken(program("weigh(0, flip(0))"))


class Order(ProgramCase):
    def test_from_left_to_right_within_an_expression(self):
        self.assert_fault(6, program("add(^y, f(1))"))
        self.assert_fault(6, program("add(^f(y), y)"))
        self.assert_fault(6, program("if(neg(^y), pick(1 : 0, 2 : 0), z)"))
        self.assert_fault(11, program("if(true, ^pick(1 : 0, 2 : 0), z)"))
        self.assert_fault(6, program("weigh(1, given(^y, z))"))

    def test_function_before_function_before_statements_before_told(self):
        self.assert_fault(12, "chance P def ^or(a flag, a flag) flag = y ; let x = y ; tell z")
        self.assert_fault(5, "chance P def f(a flag, ^a flag) flag = y ; let x = y ; tell z")
        self.assert_fault(6, "chance P def f(a flag) flag = ^y ; def f() flag = true ; let x = y ; tell z")
        self.assert_fault(5, "chance P def f() flag = true ; def ^f() flag = y ; let x = y ; tell z")
        self.assert_fault(6, "chance P def f() flag = true ; let x = ^y ; let x = 3 ; tell z")
        self.assert_fault(5, "chance P let x = 3 ; let ^x = y ; tell z")
        self.assert_fault(6, "chance P let x = 3 ; tell ^z, z")


if __name__ == "__main__":
    unittest.main()
