"""Programs made by lot (always the same ones): what is right is taken, shown in one form, and judged rightly.

The kinds are found here by trying all values, not by the document's rules for ends.
"""

import random
import re
import unittest

from helper import (
    FUNS, KIND, LETS, PLAIN, POINTS, SAME, SHOWN, SIZES, TELLS,
    ProgramCase, as_bytes, asked, loading, named, with_text, without_blanks,
)

HOW_MANY = 150
FLAG = ()

ONE_NUM = {"neg": lambda x: -x, "abs": abs}
TWO_NUMS = {"add": lambda x, y: x + y, "sub": lambda x, y: x - y, "mul": lambda x, y: x * y, "min": min, "max": max}


def hull(values):
    return (min(values), max(values))


def fits(kind):
    return kind == FLAG or (kind[0] >= -1000 and kind[1] <= 1000 and kind[1] - kind[0] <= 63)


def lies_within(kind, wanted):
    return kind == wanted or (FLAG not in (kind, wanted) and wanted[0] <= kind[0] and kind[1] <= wanted[1])


def every(kind):
    return range(kind[0], kind[1] + 1)


class Maker:
    """Makes a program as a list of tokens; a fraction is a token of its own, as a pair in lowest terms."""

    def __init__(self, seed):
        self.lot = random.Random(seed)
        self.functions = []
        self.lets = []
        self.found = []
        self.bodies = []

    def kind(self):
        if self.lot.random() < 0.4:
            return FLAG
        low = self.lot.randint(-12, 8)
        return (low, low + self.lot.randint(0, 12))

    def fraction(self, most):
        below = self.lot.randint(1, 9)
        above = self.lot.randint(0, most * below)
        common = max(k for k in range(1, 10) if below % k == 0 and above % k == 0)
        return (above // common, below // common)

    def leaf(self, wanted, known):
        """An expression that stands alone and is within the wanted kind."""
        fitting = [name for name, kind in known.items() if lies_within(kind, wanted)]
        if fitting and self.lot.random() < 0.7:
            name = self.lot.choice(fitting)
            return [name], known[name]
        if wanted == FLAG:
            return self.lot.choice([["true"], ["false"], ["flip", "(", self.fraction(1), ")"]]), FLAG
        low = self.lot.randint(*wanted)
        if self.lot.random() < 0.5:
            return [str(low)], (low, low)
        high = self.lot.randint(low, wanted[1])
        return ["uniform", "(", str(low), ",", str(high), ")"], (low, high)

    def within(self, wanted, known, deep):
        for attempt in range(4):
            tokens, kind = self.any_of(wanted != FLAG, known, deep)
            if lies_within(kind, wanted):
                return tokens, kind
        return self.leaf(wanted, known)

    def any_of(self, is_num, known, deep):
        wide = (-12, 12) if is_num else FLAG
        if deep == 1:
            return self.leaf(wide, known)
        form = self.lot.choice(["leaf", "if", "given", "weigh", "pick", "call", "operation", "operation"])
        tokens, kind = getattr(self, "make_" + form)(is_num, known, deep - 1)
        return (tokens, kind) if fits(kind) else self.leaf(wide, known)

    def make_leaf(self, is_num, known, deep):
        return self.leaf((-12, 12) if is_num else FLAG, known)

    def make_if(self, is_num, known, deep):
        question = self.any_of(False, known, deep)[0]
        first, kind = self.any_of(is_num, known, deep)
        second, other = self.any_of(is_num, known, deep)
        return ["if", "(", *question, ",", *first, ",", *second, ")"], hull(kind + other) if is_num else FLAG

    def make_given(self, is_num, known, deep):
        question = self.any_of(False, known, deep)[0]
        inner, kind = self.any_of(is_num, known, deep)
        return ["given", "(", *question, ",", *inner, ")"], kind

    def make_weigh(self, is_num, known, deep):
        inner, kind = self.any_of(is_num, known, deep)
        return ["weigh", "(", self.fraction(3), ",", *inner, ")"], kind

    def make_pick(self, is_num, known, deep):
        tokens = ["pick", "("]
        ends = ()
        for number in range(self.lot.randint(2, 4)):
            inner, kind = self.any_of(is_num, known, deep)
            tokens += ([","] if number else []) + inner + [":", self.fraction(3) if number else (1, 2)]
            ends += kind
        return tokens + [")"], hull(ends) if is_num else FLAG

    def make_call(self, is_num, known, deep):
        able = [function for function in self.functions if (function[2] != FLAG) == is_num]
        if not able:
            return self.make_leaf(is_num, known, deep)
        name, parameters, kind = self.lot.choice(able)
        tokens = [name, "("]
        for number, parameter in enumerate(parameters):
            tokens += ([","] if number else []) + self.within(parameter[1], known, deep)[0]
        return tokens + [")"], kind

    def make_operation(self, is_num, known, deep):
        if not is_num:
            return self.flag_operation(known, deep), FLAG
        first, kind = self.any_of(True, known, deep)
        if self.lot.random() < 0.3:
            word = self.lot.choice(sorted(ONE_NUM))
            return [word, "(", *first, ")"], hull([ONE_NUM[word](x) for x in every(kind)])
        second, other = self.any_of(True, known, deep)
        word = self.lot.choice(sorted(TWO_NUMS))
        values = [TWO_NUMS[word](x, y) for x in every(kind) for y in every(other)]
        return [word, "(", *first, ",", *second, ")"], hull(values)

    def flag_operation(self, known, deep):
        word = self.lot.choice(["not", "and", "or", "lt", "le", "eq"])
        of_nums = word in ("lt", "le") or (word == "eq" and self.lot.random() < 0.5)
        first = self.any_of(of_nums, known, deep)[0]
        if word == "not":
            return ["not", "(", *first, ")"]
        return [word, "(", *first, ",", *self.any_of(of_nums, known, deep)[0], ")"]

    def name(self, taken):
        free = [word for word in ("a", "b", "c", "x", "y", "add", "or", "Let", "f1", "zz", "longestname12345")
                if word not in taken]
        return self.lot.choice(free)

    def kind_tokens(self, kind):
        return ["flag"] if kind == FLAG else ["num", str(kind[0]), str(kind[1])]

    def function_rows(self):
        for number in range(self.lot.randint(0, 4)):
            parameters = []
            for another in range(self.lot.randint(0, 3)):
                parameters.append((self.name([name for name, kind in parameters]), self.kind()))
            self.functions.append((("f%d", "a%d", "Fun%d")[number % 3] % number, parameters, self.kind()))
        rows = []
        for name, parameters, kind in self.functions:
            row = ["def", name, "("]
            for number, parameter in enumerate(parameters):
                row += ([","] if number else []) + [parameter[0]] + self.kind_tokens(parameter[1])
            body = self.within(kind, dict(parameters), 4)[0]
            self.bodies.append(body)
            rows.append(row + [")"] + self.kind_tokens(kind) + ["="] + body + [";"])
        return rows

    def statement_rows(self):
        known = {}
        rows = []
        while not known or self.lot.random() < 0.8 and len(known) < 8:
            if self.lot.random() < 0.3:
                rows.append(["observe"] + self.any_of(False, known, 4)[0] + [";"])
                continue
            name = self.name(known)
            body, kind = self.any_of(self.lot.random() < 0.6, known, 5)
            row = ["let", name]
            self.found.append(kind)
            if self.lot.random() < 0.4:
                if kind != FLAG:
                    kind = (max(-1000, kind[0] - self.lot.randint(0, 3)), kind[1])
                    kind = (max(kind[0], kind[1] - 63), kind[1]) if not fits(kind) else kind
                row += self.kind_tokens(kind)
            rows.append(row + ["="] + body + [";"])
            self.lets.append((name, kind, body))
            known[name] = kind
        return rows

    def rows(self):
        self.budget = self.lot.choice([0, 0, 3, 20])
        head = [["chance", "Made"]] + ([["budget", str(self.budget)]] if self.budget else [])
        middle = self.function_rows()
        statements = self.statement_rows()
        self.counted = len(statements)
        self.told = self.lot.sample([name for name, kind, body in self.lets], self.lot.randint(1, min(6, len(self.lets))))
        tell = ["tell"]
        for name in self.told:
            tell += ([","] if len(tell) > 1 else []) + [name]
        return head + middle + statements + [tell]


def fraction_form(token):
    if isinstance(token, str):
        return token
    return str(token[0]) if token[1] == 1 else "%d/%d" % token


def one_form(rows):
    """One blank between any two tokens, and then those taken out that do not belong there."""
    text = "".join(" ".join(fraction_form(token) for token in row) + "\n" for row in rows)
    text = re.sub(r" ([(),])", r"\1", text)
    text = re.sub(r"\( ", "(", text)
    return re.sub(r"\)(?=[a-z=;:])", ") ", text)


def written_anyhow(rows, lot):
    """The same tokens with other blanks, remarks, and fractions not in lowest terms."""
    pieces = []
    for row in rows:
        for token in row:
            pieces.append(lot.choice([" ", " ", " ", "\t", "\n", "  ", " #;let\r\n"]))
            if not isinstance(token, str):
                factor = lot.randint(1, 3)
                token = lot.choice(["%d/%d", "%d /%d", "%d/ %d"]) % (token[0] * factor, token[1] * factor)
            pieces.append(token)
    text = "".join(pieces)
    return re.sub(r" ([=(),;:]) ?", lambda found: found.group(1), text)


def first_met(body, names, called):
    """The numbers of the names that stand in a body as values, or in calls."""
    met = []
    for word, follower in zip(body, body[1:] + [";"]):
        if (follower == "(") == called and word in names and names.index(word) not in met:
            met.append(names.index(word))
    return met


def reached(calls):
    """Which functions meet themselves, by widening the whole relation until it stays as it is."""
    pairs = {(k, other) for k, others in enumerate(calls) for other in others}
    while True:
        wider = pairs | {(a, d) for a, b in pairs for c, d in pairs if b == c}
        if wider == pairs:
            return [int((k, k) in pairs) for k in range(len(calls))]
        pairs = wider


def points_in(tokens):
    """Each word of chance among these tokens, and how many ways it has."""
    found = []
    for at, token in enumerate(tokens):
        if token == "flip":
            found.append((token, 2))
        if token == "uniform":
            found.append((token, int(tokens[at + 4]) - int(tokens[at + 2]) + 1))
        if token == "pick":
            found.append((token, colons_at_once(tokens[at + 1:])))
    return found


def colons_at_once(tokens):
    """How many : stand in the bracket with which these tokens begin, and in no bracket within it."""
    deep = 0
    count = 0
    for token in tokens:
        deep += {"(": 1, ")": -1}.get(token, 0)
        count += token == ":" and deep == 1
        if deep == 0:
            return count


def written_otherwise(maker, rows, title, let_word, function_word, parameter_word):
    """The rows with other names: the words have the place for a number."""
    functions = {function[0]: function_word % k for k, function in enumerate(maker.functions)}
    lets = {let[0]: let_word % k for k, let in enumerate(maker.lets)}
    changed = []
    for row in rows:
        values = lets
        if row[0] == "def":
            values = {parameter[0]: parameter_word % k for k, parameter in enumerate(function_of(maker, row)[1])}
        fellows = row[1:] + [";"]
        changed.append([(functions if fellow == "(" else values).get(token, token) for token, fellow in zip(row, fellows)])
    changed[0] = ["chance", title]
    return changed


def function_of(maker, row):
    return [function for function in maker.functions if function[0] == row[1]][0]


def kind_numbers(kind):
    return [0] if kind == FLAG else [1, *kind]


def listed(numbers):
    return [len(numbers)] + numbers


def all_made():
    made = []
    for seed in range(HOW_MANY):
        maker = Maker(seed)
        rows = maker.rows()
        form = one_form(rows)
        if len(form) <= 4096:
            made.append((maker, rows, form))
    return made


class MadePrograms(ProgramCase):
    @classmethod
    def setUpClass(cls):
        cls.made = all_made()

    def test_most_are_short_enough_and_have_all_there_is(self):
        forms = [form for maker, rows, form in self.made]
        self.assertGreater(len(forms), HOW_MANY * 2 // 3)
        for word in ("def", "observe", "budget", "if", "given", "weigh", "pick", "uniform", "flip", "true", "mul", "eq"):
            self.assertTrue(any(word in form for form in forms), word)

    def test_taken_and_shown_in_one_form(self):
        for maker, rows, form in self.made:
            self.assertEqual(asked(loading(form), [SHOWN]), [[1], listed(as_bytes(form))], form)
            self.assertEqual(asked(loading(without_blanks(form)), [SHOWN]), [[1], listed(as_bytes(form))], form)
            anyhow = written_anyhow(rows, random.Random(form))
            if len(anyhow) <= 4096:
                self.assertEqual(asked(loading(anyhow), [SHOWN]), [[1], listed(as_bytes(form))], anyhow)

    def test_sizes(self):
        for maker, rows, form in self.made:
            wanted = [maker.counted, len(maker.lets), len(maker.functions), len(maker.told), maker.budget]
            self.assertEqual(asked(loading(form), [SIZES])[1], wanted, form)

    def test_lets(self):
        for maker, rows, form in self.made:
            let_names = [name for name, kind, body in maker.lets]
            function_names = [function[0] for function in maker.functions]
            found = asked(loading(form), *[[LETS, k] for k in range(len(let_names) + 1)])
            self.assertEqual(found[-1], [-2])
            for number, (name, kind, body) in enumerate(maker.lets):
                mentioned = first_met(body, let_names, False)
                self.assertTrue(all(other < number for other in mentioned))
                called = first_met(body, function_names, True)
                wanted = [1] + named(name) + kind_numbers(kind) + listed(mentioned) + listed(called)
                self.assertEqual(found[number + 1], wanted, form)

    def test_funs(self):
        for maker, rows, form in self.made:
            names = [function[0] for function in maker.functions]
            calls = [first_met(body, names, True) for body in maker.bodies]
            recursive = reached(calls)
            found = asked(loading(form), *[[FUNS, k] for k in range(len(names) + 1)])
            self.assertEqual(found[-1], [-2])
            for number, (name, parameters, kind) in enumerate(maker.functions):
                wanted = [1] + named(name) + [len(parameters)]
                for parameter in parameters:
                    wanted += named(parameter[0]) + kind_numbers(parameter[1])
                wanted += kind_numbers(kind) + listed(calls[number]) + [recursive[number]]
                self.assertEqual(found[number + 1], wanted, form)

    def test_kinds(self):
        for maker, rows, form in self.made:
            for (name, kind, body), found in zip(maker.lets, maker.found):
                text = one_form([body])
                answered = asked(loading(form), with_text(KIND, name), with_text(KIND, text), with_text(KIND, text + ";"))
                self.assertEqual(answered[1], [1] + kind_numbers(kind), form)
                self.assertEqual(answered[2], [1] + kind_numbers(found), text)
                self.assertEqual(answered[3], [0, 3, len(text)], text)

    def test_points(self):
        for maker, rows, form in self.made:
            anyhow = written_anyhow(rows, random.Random(form))
            for text in (form, anyhow) if len(anyhow) <= 4096 else (form,):
                wanted = points_in([token for row in rows for token in row])
                places = [found.start() for found in re.finditer(r"\b(flip|uniform|pick)\b", text)]
                self.assertEqual(len(wanted), len(places))
                numbers = [number for place, (word, ways) in zip(places, wanted) for number in (place, ways)]
                self.assertEqual(asked(loading(text), [POINTS])[1], [len(places)] + numbers, text)

    def test_tells(self):
        for maker, rows, form in self.made:
            names = [name for name, kind, body in maker.lets]
            self.assertEqual(asked(loading(form), [TELLS])[1], listed([names.index(name) for name in maker.told]))

    def test_plain(self):
        for maker, rows, form in self.made:
            plain = one_form(written_otherwise(maker, rows, "P", "x%d", "f%d", "a%d"))
            self.assertEqual(asked(loading(form), [PLAIN])[1], listed(as_bytes(plain)), form)
            if len(plain) <= 4096:
                found = asked(loading(plain), [PLAIN], [SHOWN], with_text(SAME, form), loading(form), with_text(SAME, plain))
                self.assertEqual(found, [[1], listed(as_bytes(plain)), listed(as_bytes(plain)), [1], [1], [1]])

    def test_same_with_other_names(self):
        for maker, rows, form in self.made:
            for words in (("f0", "f%d", "a%d", "x%d"), ("Q", "or%d", "or%d", "or%d"), ("add", "x1%d", "x1%d", "f1%d")):
                other = without_blanks(one_form(written_otherwise(maker, rows, *words)))
                if len(other) <= 3800:
                    self.assertEqual(asked(loading(form), with_text(SAME, other))[1], [1], other)
                    self.assertEqual(asked(loading(other), with_text(SAME, form))[1], [1], other)

    def test_same_is_a_sameness(self):
        small = sorted([form for maker, rows, form in self.made], key=len)[:30]
        plains = [asked(loading(form), [PLAIN])[1] for form in small]
        for form, plain in zip(small, plains):
            for other, other_plain in zip(small, plains):
                self.assertEqual(asked(loading(form), with_text(SAME, other))[1], [int(plain == other_plain)])

    def test_same_of_broken_ones(self):
        counts = {1: 0, 0: 0, -4: 0}
        for maker, rows, form in self.made:
            lot = random.Random(form)
            words = form.split(" ")
            for attempt in range(10):
                at = lot.randrange(len(words))
                broken = " ".join(words[:at] + [lot.choice(words)] + words[at + 1:])
                found = asked(loading(form), [PLAIN], with_text(SAME, broken), [PLAIN], loading(broken), [PLAIN])
                self.assertEqual(found[1], found[3])
                wanted = -4 if found[4] != [1] else int(found[5] == found[1])
                self.assertEqual(found[2], [wanted], broken)
                counts[wanted] += 1
        self.assertTrue(all(counts.values()), counts)

    def test_broken_ones_leave_what_is_held(self):
        codes = {}
        for maker, rows, form in self.made:
            lot = random.Random(form)
            words = form.split(" ")
            for attempt in range(10):
                at = lot.randrange(len(words))
                broken = " ".join(words[:at] + lot.choice([[], words[:1], [lot.choice(words)]]) + words[at + 1:])
                if len(broken) > 4096:
                    continue
                found = asked(loading(form), [SHOWN], loading(broken), [SHOWN])
                if found[2] == [1]:
                    continue
                self.assertEqual(found[2][0], 0)
                self.assertEqual(len(found[2]), 3)
                self.assertTrue(2 <= found[2][1] <= 14 and 0 <= found[2][2] <= len(broken), broken)
                self.assertEqual(found[1], found[3])
                codes[found[2][1]] = True
        self.assertTrue({3, 6, 8} <= set(codes), codes)


if __name__ == "__main__":
    unittest.main()
