"""The calls and how they are handed in: what is answered, what is refused, what is left as it was."""

import unittest

from helper import (
    FUNS, KIND, LETS, LOAD, PLAIN, POINTS, RAIN, SAME, SHOWN, SIZES, TELLS,
    ProgramCase, as_bytes, asked, asked_of, loading, named, taken_apart, with_text,
)
from lotprograms.programs import answers

FAR = 10 ** 18
SMALL = "chance S let y = 1 ; tell y"

ALL_OF_RAIN = [
    [SHOWN], [SIZES], [LETS, 3], [FUNS, 0], with_text(KIND, "sub(grade, drops)"), with_text(KIND, "y"), [POINTS], [TELLS],
    [PLAIN], with_text(SAME, RAIN), with_text(SAME, SMALL), with_text(SAME, "chance"),
]

CYCLES = """chance C
def alone() flag = true ;
def self(a num 0 9) flag = if(lt(a, 1), true, self(sub(max(a, 1), 1))) ;
def ping() flag = pong() ;
def pong() flag = and(alone(), peng()) ;
def peng() flag = or(ping(), alone()) ;
def user(a flag, b num -3 3) num 0 5 = if(ping(), 1, if(self(3), 2, if(ping(), 3, late()))) ;
def late() num 0 5 = 4 ;
let x = user(alone(), 2) ;
let y = if(alone(), if(self(1), late(), user(ping(), 0)), late()) ;
tell x
"""


class Untouched(list):
    """A list that can't be changed, not for a while either."""

    def refuse(self, *given):
        raise AssertionError("the list that is handed in is changed")

    append = extend = insert = remove = pop = clear = sort = reverse = refuse
    __setitem__ = __delitem__ = __iadd__ = __imul__ = refuse


class Handing(ProgramCase):
    def test_how_many_numbers_each_answer_has(self):
        self.assertEqual(answers([SIZES] + loading(SMALL) + [SIZES, SHOWN, LETS, 9]),
                         [1, -1, 1, 1, 5, 1, 1, 0, 1, 0, 29, 28] + as_bytes("chance S\nlet y = 1 ;\ntell y\n") + [1, -2])

    def test_a_fault_has_three_numbers(self):
        self.assertEqual(answers(loading("chance P tell x")), [3, 0, 3, 9])

    def test_whole_numbers_alone_are_given_back(self):
        texts = ["uniform(0, 9)", "true", "$", CYCLES, SMALL, ""]
        given = answers(loading(CYCLES) + [SHOWN, SIZES, LETS, 0, LETS, 1] + [n for k in range(7) for n in (FUNS, k)]
                        + loading(RAIN) + [POINTS, TELLS, PLAIN]
                        + [n for call in (KIND, SAME) for text in texts for n in with_text(call, text)])
        self.assertEqual({type(number) for number in given}, {int})
        self.assertIs(type(given), list)

    def test_the_list_handed_in_is_unchanged(self):
        calls = loading(RAIN) + [SHOWN, SIZES, LETS, 1, FUNS, 0, LETS, -1] + loading("$") + [POINTS, TELLS, PLAIN]
        for text in ("grade", "x", "$", "", RAIN, SMALL, "chance P let x = y ; tell x", " " * 5000):
            calls += with_text(KIND, text) + with_text(SAME, text)
        self.assertEqual(len(taken_apart(answers(Untouched(calls)))), 26)
        before = list(calls)
        answers(calls)
        self.assertEqual(calls, before)

    def test_nothing_is_kept_from_one_time_to_the_next(self):
        calls = loading(RAIN) + [SHOWN, POINTS, TELLS, PLAIN] + with_text(KIND, "grade") + with_text(SAME, RAIN)
        first = answers(calls)
        none_held = [[SHOWN], [SIZES], [POINTS], [TELLS], [PLAIN], with_text(KIND, "grade"), with_text(SAME, RAIN)]
        self.assertEqual(asked(*none_held), [[-1]] * 7)
        self.assertEqual(answers(calls), first)

    def test_what_is_given_back_is_no_one_elses(self):
        given = answers(loading(RAIN) + [SHOWN])
        given.clear()
        self.assertEqual(len(answers(loading(RAIN) + [SHOWN])), 290)

    def test_all_ten_calls_are_read(self):
        texts = with_text(KIND, as_bytes("1 2 3")) + with_text(SAME, SMALL) + with_text(KIND, "") + with_text(SAME, "")
        found = taken_apart(answers(texts + [POINTS, TELLS, PLAIN] + loading(SMALL) + texts
                                    + [POINTS, TELLS, PLAIN, LETS, FAR, FUNS, -FAR, SIZES]))
        plain = as_bytes("chance P\nlet x0 = 1 ;\ntell x0\n")
        self.assertEqual(found, [[-1]] * 7 + [[1], [0, 3, 2], [1], [0, 3, 0], [-4], [0], [1, 0], [len(plain)] + plain,
                                              [-2], [-2], [1, 1, 0, 1, 0]])

    def test_numbers_in_a_text_are_no_calls(self):
        found = asked(with_text(LOAD, [0, 1, 2, 3, 4, 5, 6, 7, 8, 9]), [SIZES])
        self.assertEqual(found, [[0, 2, 0], [-1]])

    def test_an_empty_text(self):
        self.assertEqual(asked([LOAD, 0], [SIZES]), [[0, 3, 0], [-1]])

    def test_400_calls(self):
        self.assertEqual(asked(loading(SMALL), *[[SIZES]] * 399), [[1]] + [[1, 1, 0, 1, 0]] * 399)
        shown = answers(loading(RAIN) + [SHOWN] * 399)
        self.assertEqual(len(shown), 2 + 399 * 288)


class Refusals(ProgramCase):
    def test_before_any_program_is_held(self):
        calls = [[SHOWN], [SIZES], [LETS, 0], [LETS, -1], [FUNS, 0], [FUNS, FAR], with_text(KIND, "1"), [POINTS],
                 [TELLS], [PLAIN], with_text(SAME, SMALL), with_text(KIND, "add(1"), with_text(KIND, "$" * 8192),
                 with_text(SAME, "no program"), with_text(SAME, "$" * 8192)]
        for call in calls:
            self.assertEqual(asked(call), [[-1]])
        self.assertEqual(asked(*calls), [[-1]] * len(calls))

    def test_a_faulty_load_holds_nothing(self):
        self.assertEqual(asked(loading("chance P tell x"), [SIZES], [LETS, 0]), [[0, 3, 9], [-1], [-1]])

    def test_a_faulty_load_leaves_the_program_that_is_held(self):
        faulty = ("$", "chance P tell x", "chance P let x = y ; tell x", "chance P let x = not(1) ; tell x", " " * 5000)
        before = asked_of(RAIN, *ALL_OF_RAIN)
        for text in faulty:
            found = asked_of(RAIN, loading(text), *ALL_OF_RAIN)
            self.assertEqual(found[0][0], 0)
            self.assertEqual(found[1:], before)

    def test_a_good_load_takes_its_place(self):
        self.assertEqual(asked_of(RAIN, loading(SMALL), [SIZES], [FUNS, 0], [LETS, 1], loading(RAIN), [SIZES]),
                         [[1], [1, 1, 0, 1, 0], [-2], [-2], [1], [5, 4, 1, 2, 2]])

    def test_lets_and_funs_that_are_not_there(self):
        for number in (-FAR, -5, -4, -1, 4, 5, FAR):
            self.assertEqual(asked_of(RAIN, [LETS, number], [SIZES]), [[-2], [5, 4, 1, 2, 2]])
        for number in (-FAR, -2, -1, 1, 2, FAR):
            self.assertEqual(asked_of(RAIN, [FUNS, number], [SIZES]), [[-2], [5, 4, 1, 2, 2]])

    def test_a_refused_call_leaves_everything(self):
        refused = [[LETS, -1], [LETS, 4], [FUNS, 1], [FUNS, -1], with_text(SAME, "chance"), with_text(SAME, "")]
        found = asked_of(RAIN, *refused, *ALL_OF_RAIN)
        self.assertEqual(found[:6], [[-2]] * 4 + [[-4]] * 2)
        self.assertEqual(found[6:], asked_of(RAIN, *ALL_OF_RAIN))


class Lets(ProgramCase):
    def test_observes_are_not_counted(self):
        text = "chance P observe true ; let a = 1 ; observe true ; let b = a ; observe false ; tell b"
        self.assertEqual(asked_of(text, [LETS, 0], [LETS, 1], [LETS, 2], [SIZES]), [
            [1] + named("a") + [1, 1, 1, 0, 0],
            [1] + named("b") + [1, 1, 1, 1, 0, 0],
            [-2],
            [5, 2, 0, 1, 0],
        ])

    def test_mentioned_in_the_order_in_which_they_come_first(self):
        text = ("chance P let a = 1 ; let b = 2 ; let c = true ; let d = 4 ; "
                "let e = if(c, add(d, add(b, d)), pick(b : 1, a : 2, d : 3)) ; tell e")
        self.assertEqual(asked_of(text, [LETS, 4])[0], [1] + named("e") + [1, 1, 10] + [4, 2, 3, 1, 0] + [0])

    def test_called_in_the_order_in_which_they_come_first(self):
        answer = asked_of(CYCLES, [LETS, 1])[0]
        self.assertEqual(answer, [1] + named("y") + [1, 0, 5] + [0] + [5, 0, 1, 6, 5, 2])

    def test_a_call_before_its_arguments(self):
        answer = asked_of(CYCLES, [LETS, 0])[0]
        self.assertEqual(answer, [1] + named("x") + [1, 0, 5] + [0] + [2, 5, 0])

    def test_names_inside_every_form_are_mentioned(self):
        start = "chance P def echo(a flag) flag = a ; let t = true ; let x = "
        for expression in ("t", "not(t)", "or(false, t)", "if(t, 1, 2)", "if(true, t, false)", "if(true, true, t)",
                           "given(t, 1)", "given(true, t)", "weigh(1, t)", "pick(t : 1, true : 1)",
                           "pick(true : 1, t : 1)", "echo(t)", "eq(true, echo(not(t)))"):
            answer = asked_of(start + expression + " ; tell x", [LETS, 1])[0]
            calls = [1, 0] if "echo(" in expression else [0]
            self.assertEqual(answer[-len(calls) - 2:], [1, 0] + calls, expression)

    def test_a_function_and_a_let_of_one_name(self):
        text = "chance P def g() flag = true ; def f() flag = g() ; let f = 1 ; let x = eq(f, f) ; let y = f() ; tell x"
        self.assertEqual(asked_of(text, [LETS, 1], [LETS, 2]), [
            [1] + named("x") + [0] + [1, 0] + [0],
            [1] + named("y") + [0] + [0] + [1, 1],
        ])

    def test_the_written_kind_is_told(self):
        text = "chance P let a num -5 5 = 1 ; let b flag = true ; tell a"
        self.assertEqual(asked_of(text, [LETS, 0], [LETS, 1]), [
            [1] + named("a") + [1, -5, 5, 0, 0],
            [1] + named("b") + [0, 0, 0],
        ])

    def test_long_names(self):
        name = "abcdefghijklmnop"
        self.assertEqual(asked_of("chance P let " + name + " = 1 ; tell " + name, [LETS, 0])[0],
                         [1] + named(name) + [1, 1, 1, 0, 0])


class Funs(ProgramCase):
    def test_no_functions(self):
        self.assertEqual(asked_of(SMALL, [FUNS, 0]), [[-2]])

    def test_parameters_and_kinds(self):
        self.assertEqual(asked_of(CYCLES, [FUNS, 5])[0],
                         [1] + named("user") + [2] + named("a") + [0] + named("b") + [1, -3, 3] + [1, 0, 5]
                         + [3, 2, 1, 6] + [0])

    def test_not_recursive_at_all(self):
        self.assertEqual(asked_of(CYCLES, [FUNS, 0])[0], [1] + named("alone") + [0, 0, 0, 0])

    def test_recursive_by_itself(self):
        self.assertEqual(asked_of(CYCLES, [FUNS, 1])[0], [1] + named("self") + [1] + named("a") + [1, 0, 9, 0, 1, 1, 1])

    def test_recursive_by_way_of_others(self):
        self.assertEqual(asked_of(CYCLES, [FUNS, 2], [FUNS, 3], [FUNS, 4]), [
            [1] + named("ping") + [0, 0, 1, 3, 1],
            [1] + named("pong") + [0, 0, 2, 0, 4, 1],
            [1] + named("peng") + [0, 0, 2, 2, 0, 1],
        ])

    def test_a_function_that_calls_a_later_one(self):
        self.assertEqual(asked_of(CYCLES, [FUNS, 5])[0][-5:], [3, 2, 1, 6, 0])
        self.assertEqual(asked_of(CYCLES, [FUNS, 6])[0], [1] + named("late") + [0, 1, 0, 5, 0, 0])

    def test_calls_recursive_ones_but_is_none(self):
        self.assertEqual(asked_of(CYCLES, [FUNS, 5])[0][-1], 0)

    def test_a_ring_of_eight(self):
        ring = "".join("def f%d() flag = f%d() ; " % (k, (k + 1) % 8) for k in range(8))
        chain = "".join("def f%d() flag = f%d() ; " % (k, min(k + 1, 7)) for k in range(8))
        calls = [[FUNS, k] for k in range(8)]
        end = "let x = f0() ; tell x"
        self.assertEqual([a[-1] for a in asked_of("chance P " + ring + end, *calls)], [1] * 8)
        self.assertEqual([a[-1] for a in asked_of("chance P " + chain + end, *calls)], [0] * 7 + [1])

    def test_a_parameter_like_a_function_is_no_call(self):
        text = "chance P def f(f flag) flag = f ; let x = f(true) ; tell x"
        self.assertEqual(asked_of(text, [FUNS, 0])[0], [1] + named("f") + [1] + named("f") + [0, 0, 0, 0])


if __name__ == "__main__":
    unittest.main()
