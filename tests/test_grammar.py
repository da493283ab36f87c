"""The grammar: fault 3, what is one too many (4) and what is out of bounds (7)."""

import unittest

from helper import SIZES, ProgramCase, asked_of, program, shown_text

RESERVED = ("chance budget def let observe tell table net flag num "
            "if flip pick uniform given weigh true false").split()
OPERATIONS = "neg abs not add sub mul min max lt le eq and or".split()
TAIL = " let x = 3 ; tell x"


def with_functions(count, tail=TAIL):
    return "chance P " + "".join("def f%d() flag = true ; " % k for k in range(count)) + tail


def with_statements(count, tail="tell x0"):
    return "chance P " + "".join("let x%d = 3 ; " % k for k in range(count)) + tail


def with_told(count, end=""):
    lets = "".join("let x%d = 3 ; " % k for k in range(count))
    return "chance P " + lets + "tell " + ", ".join("x%d" % k for k in range(count)) + end


class Head(ProgramCase):
    def test_chance_and_title(self):
        self.assert_fault(3, "^let x = 3 ; tell x")
        self.assert_fault(3, "^P let x = 3 ; tell x")
        self.assert_fault(3, "chance ^3 let x = 3 ; tell x")
        self.assert_fault(3, "chance ^")
        for word in RESERVED:
            self.assert_fault(3, "chance ^" + word + TAIL)

    def test_title_like_an_operation(self):
        for word in OPERATIONS:
            self.assert_taken("chance " + word + TAIL)

    def test_budget(self):
        for budget in (0, 1, 20):
            self.assertEqual(asked_of("chance P budget %d" % budget + TAIL, [SIZES])[0][4], budget)
        self.assertEqual(asked_of("chance P" + TAIL, [SIZES])[0][4], 0)
        self.assert_fault(7, "chance P budget ^21" + TAIL)
        self.assert_fault(7, "chance P budget ^-1" + TAIL)
        self.assert_fault(3, "chance P budget ^x" + TAIL)
        self.assert_fault(3, "chance P budget 1^/1" + TAIL)
        self.assert_fault(3, "chance P budget 1 ^budget 1" + TAIL)
        self.assert_fault(3, "chance P def f() flag = true ; ^budget 1" + TAIL)


class Functions(ProgramCase):
    def test_8_functions(self):
        self.assert_taken(with_functions(8))
        self.assert_taken(with_functions(0))

    def test_a_ninth_word_def(self):
        self.assert_fault(4, with_functions(8, "^def"))
        self.assert_fault(4, with_functions(8, "^def 3 ;"))

    def test_def_behind_a_statement(self):
        self.assert_fault(3, "chance P let x = 3 ; ^def f() flag = true ; tell x")
        self.assert_fault(3, with_functions(8, "let x = 3 ; ^def f() flag = true ; tell x"))

    def test_parameters(self):
        for count in range(5):
            parameters = ", ".join("a%d num 0 %d" % (k, k) for k in range(count))
            self.assert_taken("chance P def f(" + parameters + ") flag = true ;" + TAIL)

    def test_fifth_parameter(self):
        four = "chance P def f(a flag, b flag, c flag, d flag, "
        self.assert_fault(4, four + "^e flag) flag = true ;" + TAIL)
        self.assert_fault(4, four + "^and")
        self.assert_fault(3, four + "^) flag = true ;" + TAIL)
        self.assert_fault(3, four + "^3 flag) flag = true ;" + TAIL)
        self.assert_fault(3, four + "^flag flag) flag = true ;" + TAIL)
        self.assert_fault(3, four + "^")

    def test_what_is_missing(self):
        whole = "def f ( a flag , b num 0 1 ) flag = true ;"
        words = whole.split()
        self.assert_taken("chance P " + whole + TAIL)
        for k in range(1, len(words) + 1):
            self.assert_fault(3, "chance P " + " ".join(words[:k]) + " ^| " + " ".join(words[k:]) + TAIL)
            self.assert_fault(3, "chance P " + " ".join(words[:k]) + " ^")

    def test_names_that_are_reserved(self):
        for word in RESERVED:
            self.assert_fault(3, "chance P def ^" + word + "() flag = true ;" + TAIL)
            self.assert_fault(3, "chance P def f(^" + word + " flag) flag = true ;" + TAIL)

    def test_parameters_out_of_form(self):
        self.assert_fault(3, "chance P def f(^, a flag) flag = true ;" + TAIL)
        self.assert_fault(3, "chance P def f(a flag, ^) flag = true ;" + TAIL)
        self.assert_fault(3, "chance P def f(a flag ^b flag) flag = true ;" + TAIL)
        self.assert_fault(3, "chance P def f(a^, b flag) flag = true ;" + TAIL)
        self.assert_fault(3, "chance P def f() ^= true ;" + TAIL)


class Kinds(ProgramCase):
    def let_of_kind(self, kind, value="0"):
        return "chance P let x " + kind + " = " + value + " ; tell x"

    def test_64_and_65_numbers(self):
        self.assert_taken(self.let_of_kind("num 0 63"))
        self.assert_fault(7, self.let_of_kind("num 0 ^64"))
        self.assert_taken(self.let_of_kind("num -32 31"))
        self.assert_fault(7, self.let_of_kind("num -32 ^32"))

    def test_ends(self):
        self.assert_taken(self.let_of_kind("num -1000 -1000", "-1000"))
        self.assert_taken(self.let_of_kind("num 1000 1000", "1000"))
        self.assert_taken(self.let_of_kind("num 937 1000", "1000"))
        self.assert_fault(7, self.let_of_kind("num ^-1001 -1000"))
        self.assert_fault(7, self.let_of_kind("num ^1001 1001"))
        self.assert_fault(7, self.let_of_kind("num 1000 ^1001"))

    def test_high_below_low(self):
        self.assert_fault(7, self.let_of_kind("num 1 ^0"))
        self.assert_taken(self.let_of_kind("num 0 0"))

    def test_both_are_read_before_they_are_looked_at(self):
        self.assert_fault(3, "chance P let x num 1001 ^= 0 ; tell x")
        self.assert_fault(3, self.let_of_kind("num 1001 ^x"))
        self.assert_fault(7, self.let_of_kind("num ^1001 5000"))
        self.assert_fault(7, self.let_of_kind("num ^-2000 5000 |"))

    def test_no_kind(self):
        self.assert_fault(3, self.let_of_kind("^bool"))
        self.assert_fault(3, self.let_of_kind("flag ^flag"))
        self.assert_fault(3, self.let_of_kind("num ^x 1"))
        self.assert_fault(3, self.let_of_kind("num 0^/1 1"))


class Statements(ProgramCase):
    def test_32_and_33(self):
        self.assert_taken(with_statements(32))
        self.assert_fault(4, with_statements(32, "^let"))
        self.assert_fault(4, with_statements(32, "^observe true ; tell x0"))
        self.assert_fault(3, with_statements(32, "^x"))
        self.assert_fault(3, with_statements(32, "^def f() flag = true ; tell x0"))
        self.assert_fault(3, with_statements(32, "^"))

    def test_observes_count(self):
        many = "chance P let x = 3 ; " + "observe true ; " * 31
        self.assert_taken(many + "tell x")
        self.assert_fault(4, many + "^let y = 3 ; tell x")
        self.assertEqual(asked_of(many + "tell x", [SIZES]), [[32, 1, 0, 1, 0]])

    def test_at_least_one(self):
        self.assert_fault(3, "chance P ^tell x")
        self.assert_fault(3, "chance P ^")
        self.assert_fault(3, "chance P def f() flag = true ; ^tell x")

    def test_only_let_observe_and_tell(self):
        for word in RESERVED + OPERATIONS + ["x"]:
            if word not in ("let", "observe", "tell"):
                self.assert_fault(3, "chance P let x = 3 ; ^" + word + " = 3 ; tell x")
            if word not in ("let", "observe", "budget", "def"):
                self.assert_fault(3, "chance P ^" + word + " = 3 ; tell x")

    def test_let(self):
        self.assert_fault(3, "chance P let ^= 3 ; tell x")
        self.assert_fault(3, "chance P let ^let = 3 ; tell x")
        self.assert_fault(3, "chance P let x ^3 ; tell x")
        self.assert_fault(3, "chance P let x = ^; tell x")
        self.assert_fault(3, "chance P let x = 3 ^tell x")
        self.assert_fault(3, "chance P let x = 3 ; ^; tell x")

    def test_observe(self):
        self.assert_fault(3, "chance P let x = 3 ; observe ^; tell x")
        self.assert_fault(3, "chance P let x = 3 ; observe true ^= true ; tell x")
        self.assert_taken("chance P observe true ; let x = 3 ; tell x")


class Told(ProgramCase):
    def test_6_and_7(self):
        for count in range(1, 7):
            self.assert_taken(with_told(count))
        self.assert_fault(4, with_told(6, ", ^x0"))
        self.assert_fault(4, with_told(6, ", ^or"))
        self.assert_fault(3, with_told(6, ", ^let"))
        self.assert_fault(3, with_told(6, ", ^3"))
        self.assert_fault(3, with_told(6, ", ^"))

    def test_at_least_one(self):
        self.assert_fault(3, "chance P let x = 3 ; tell ^")
        self.assert_fault(3, "chance P let x = 3 ; tell # none\n^")

    def test_nothing_behind(self):
        self.assert_fault(3, "chance P let x = 3 ; tell x ^;")
        self.assert_fault(3, "chance P let x = 3 ; tell x ^x")
        self.assert_fault(3, "chance P let x = 3 ; tell x^(")
        self.assert_fault(3, "chance P let x = 3 ; tell x, ^")
        self.assert_fault(3, "chance P let x = 3 ; tell x, ^let")
        self.assert_taken("chance P let x = 3 ; tell x # and no more")


class Expressions(ProgramCase):
    def test_operations_have_their_numbers_of_arguments(self):
        for word in OPERATIONS:
            value = "true" if word in ("not", "and", "or") else "1"
            if word in ("neg", "abs", "not"):
                self.assert_taken(program("%s(%s)" % (word, value)))
                self.assert_fault(3, program("%s(%s^, 1)" % (word, value)))
            else:
                self.assert_taken(program("%s(%s, %s)" % (word, value, value)))
                self.assert_fault(3, program("%s(%s^)" % (word, value)))
                self.assert_fault(3, program("%s(%s, %s^, 1)" % (word, value, value)))
            self.assert_fault(3, program(word + "(^)"))
            self.assert_fault(3, program(word + "(^, 1)"))

    def test_operation_words_as_names(self):
        self.assert_taken("chance P let add = 3 ; let x = add(add, add) ; tell add")
        self.assert_fault(6, program("^neg"))

    def test_if_given_weigh(self):
        self.assert_taken(program("if(true, 1, 2)"))
        self.assert_fault(3, program("if(true, 1^)"))
        self.assert_fault(3, program("if(true, 1, 2^, 3)"))
        self.assert_fault(3, program("if(^)"))
        self.assert_taken(program("given(true, 1)"))
        self.assert_fault(3, program("given(true^)"))
        self.assert_fault(3, program("given(true, 1^, 2)"))
        self.assert_taken(program("weigh(1/2, 1)"))
        self.assert_fault(3, program("weigh(1/2^)"))
        self.assert_fault(3, program("weigh(^true, 1)"))
        self.assert_fault(3, program("weigh(1, 2^, 3)"))

    def test_reserved_words_need_their_brackets(self):
        for word in ("if", "flip", "pick", "uniform", "given", "weigh"):
            self.assert_fault(3, "chance P let x = " + word + " ^; tell x")
            self.assert_fault(3, program(word + "^, 1"))

    def test_reserved_words_that_begin_no_expression(self):
        for word in "chance budget def let observe tell table net flag num".split():
            self.assert_fault(3, program("^" + word))
            self.assert_fault(3, program("neg(^" + word + "(1))"))

    def test_uniform(self):
        self.assert_taken(program("uniform(0, 63)"))
        self.assert_fault(7, program("uniform(0, ^64)"))
        self.assert_taken(program("uniform(-1000, -937)"))
        self.assert_taken(program("uniform(1000, 1000)"))
        self.assert_fault(7, program("uniform(^-1001, 0)"))
        self.assert_fault(7, program("uniform(^1001, 1001)"))
        self.assert_fault(7, program("uniform(1000, ^1001)"))
        self.assert_fault(7, program("uniform(2, ^1)"))
        self.assert_fault(3, program("uniform(1001, ^x)"))
        self.assert_fault(3, program("uniform(1001^)"))
        self.assert_fault(7, program("uniform(^1001, 5000;"))
        self.assert_fault(7, program("uniform(0, ^64;"))
        self.assert_fault(3, program("uniform(0, 1^, 2)"))
        self.assert_fault(3, program("uniform(^true, 1)"))
        self.assert_fault(3, program("uniform(0^/1, 1)"))

    def test_brackets(self):
        self.assert_fault(3, program("^(1)"))
        self.assert_fault(3, program("add(1, 2 ^;"))
        self.assert_fault(3, program("1^)"))
        self.assert_fault(3, program("1^(2)"))
        self.assert_fault(3, program("true^(2)"))
        self.assert_fault(3, "chance P let x = add(1, ^")

    def test_calls(self):
        for count in range(5):
            parameters = ", ".join("a%d flag" % k for k in range(count))
            arguments = ", ".join(["true"] * count)
            self.assert_taken("chance P def f(" + parameters + ") flag = true ; let x = f(" + arguments + ") ; tell x")
        self.assert_fault(3, program("f(^, 1)"))
        self.assert_fault(3, program("f(1, ^)"))
        self.assert_fault(3, program("f(1 ^2)"))
        self.assert_fault(3, program("f(1, 2, 3, 4 ^;"))

    def test_fifth_argument(self):
        beginnings = ["5", "-5", "y", "and", "true", "false", "if", "flip", "pick", "uniform", "given", "weigh"]
        for first in beginnings:
            self.assert_fault(4, program("f(1, 2, 3, 4, ^" + first + " |"))
            self.assert_fault(4, "chance P let x = f(1, 2, 3, 4, ^" + first)
        for first in (")", ",", "(", "let", "flag", "num", "->", "/"):
            self.assert_fault(3, program("f(1, 2, 3, 4, ^" + first))
        self.assert_fault(3, "chance P let x = f(1, 2, 3, 4, ^")

    def test_fifth_argument_of_a_function_with_an_unknown_name(self):
        self.assert_fault(4, program("nowhere(y, y, y, y, ^y)"))

    def ways(self, count):
        return ", ".join("%d : 1" % k for k in range(count))

    def test_ways_of_a_pick(self):
        for count in range(2, 9):
            self.assert_taken(program("pick(" + self.ways(count) + ")"))
        self.assert_fault(3, program("pick(^)"))
        self.assert_fault(3, program("pick(1 : 1^)"))
        self.assert_fault(3, program("pick(1 : 1, ^)"))
        self.assert_fault(3, program("pick(1^, 2 : 1)"))
        self.assert_fault(3, program("pick(1 : ^x, 2 : 1)"))
        self.assert_fault(3, program("pick(1 : 1, 2 : 1 ^;"))

    def test_ninth_way(self):
        eight = "pick(" + self.ways(8) + ", "
        for first in ("9", "y", "not", "true", "false", "if", "flip", "pick", "uniform", "given", "weigh"):
            self.assert_fault(4, program(eight + "^" + first + " |"))
        for first in (")", ":", "let", "flag"):
            self.assert_fault(3, program(eight + "^" + first))
        self.assert_fault(3, "chance P let x = " + eight + "^")


class Fractions(ProgramCase):
    def test_read_to_the_end_before_it_is_asked_how_great(self):
        self.assert_fault(7, program("flip(-1/^0)"))
        self.assert_fault(3, program("flip(-1/^;"))
        self.assert_fault(7, program("weigh(-1/^0, 1)"))
        self.assert_fault(3, program("weigh(-1/^;"))
        self.assert_fault(7, program("pick(1 : -1/^0, 2 : 1)"))
        self.assert_fault(7, program("flip(^-1 ;"))
        self.assert_fault(7, program("flip(^-1/2 ;"))

    def test_below_must_be_above_0(self):
        self.assert_taken(program("flip(1/1)"))
        self.assert_fault(7, program("flip(1/^0)"))
        self.assert_fault(7, program("flip(1/^-2)"))
        self.assert_fault(3, program("flip(1/2^/3)"))
        self.assert_fault(3, program("flip(1/^x)"))
        self.assert_fault(3, program("flip(^/2)"))
        self.assert_fault(3, program("flip(^x)"))

    def test_flip_from_0_to_1(self):
        for share in ("0", "1", "0/7", "7/7", "1/2", "999999999/1000000000"):
            self.assert_taken(program("flip(" + share + ")"))
        for share in ("-1", "2", "8/7", "-1/1000000000", "1000000000/999999999"):
            self.assert_fault(7, program("flip(^" + share + ")"))
        self.assert_fault(3, program("flip(1/2^, 1)"))

    def test_weights_not_below_0(self):
        self.assert_taken(program("weigh(0, 1)"))
        self.assert_taken(program("weigh(1000000000, 1)"))
        self.assert_fault(7, program("weigh(^-1/3, 1)"))
        self.assert_fault(7, program("pick(1 : ^-1, 2 : 1)"))
        self.assert_fault(7, program("pick(1 : 1, 2 : ^-1/2)"))

    def test_shown_in_lowest_terms(self):
        self.assertIn("flip(1/3)", shown_text(program("flip(2/6)")))
        self.assertIn("weigh(2, 1)", shown_text(program("weigh(4/2, 1)")))
        self.assertIn("weigh(3/2, 1)", shown_text(program("weigh(999999/666666, 1)")))
        self.assertIn("pick(1 : 0, 2 : 1/2)", shown_text(program("pick(1 : 0/9, 2 : 500000000/1000000000)")))


if __name__ == "__main__":
    unittest.main()
