"""Points 29 and 30: completing."""

import inspect
import json
import random
import unittest

from growingrecords import completing
from growingrecords.completing import completed
from growingrecords.errors import TooLarge, UnknownFunction, WrongArguments
from growingrecords.programs import Program
from growingrecords.records import Record, extends
from growingrecords.running import outcome
from tests import model, samples
from tests.samples import plain, record
from tests.test_cases import CASES_200, CASES_201


def longer(value, names):
    """All values that have one more field somewhere, with an integer or an empty record."""
    if isinstance(value, dict):
        for name in names:
            if name in value:
                yield from ({**value, name: inner} for inner in longer(value[name], names))
            else:
                yield {**value, name: 0}
                yield {**value, name: {}}


def longer_tuples(values, names):
    for index, value in enumerate(values):
        for inner in longer(value, names):
            yield (*values[:index], inner, *values[index + 1:])


def inner_names(value):
    if isinstance(value, dict):
        return set(value).union(*[inner_names(inner) for inner in value.values()])
    return set()


class CompleteCase(unittest.TestCase):

    def check(self, program, name, given):
        """Completes plain arguments; returns plain ones, after some checks, or None."""
        arguments = record(given)
        before = str([str(value) for value in arguments])
        found = completed(program, name, *arguments)
        self.assertEqual(str([str(value) for value in arguments]), before)
        if found is None:
            self.assertEqual(outcome(program, name, *arguments)[0], "failure")
            return None
        self.assertIsInstance(found, tuple)
        self.assertEqual(len(found), len(given))
        for large, small in zip(found, arguments):
            self.assertIs(extends(large, small), True)
            self.assertIsInstance(large, Record if isinstance(small, Record) else int)
        self.assertEqual(outcome(program, name, *found)[0], "value")
        self.assertEqual(completed(program, name, *found), found)
        if outcome(program, name, *arguments)[0] == "value":
            self.assertEqual(found, arguments)
        return plain(found)

    def complete(self, text, *given):
        if not text.startswith("def"):
            text = f"def f({', '.join('pqrs'[:len(given)])}) = {text}"
        program = Program.read(text)
        return self.check(program, program.names[-1], given)

    def assert_completed(self, expected, text, *given):
        self.assertEqual(self.complete(text, *given), expected, (text, given))

    def assert_added(self, count, text, *given):
        found = self.complete(text, *given)
        self.assertEqual(model.size(found) - model.size(given), count, (text, given, found))
        return found


class TestInterface(unittest.TestCase):

    def test_it_is_defined_in_its_file(self):
        self.assertEqual(inspect.getmodule(completed), completing)
        self.assertEqual(str(inspect.signature(completed)), "(program, name, *arguments)")

    def test_arguments_by_name(self):
        self.assertEqual(completed(name="f", program=Program.read("def f() = 1")), ())

    def test_errors_in_their_order(self):
        program = Program.read(CASES_201 + "\ndef g(p) = p")
        for arguments in ((), (1,), (1, 2), (1, 2, 3)):
            with self.assertRaises(UnknownFunction) as caught:
                completed(program, "h", *arguments)
            self.assertEqual(caught.exception.name, "h")
        for name, arguments in (("f", ()), ("f", (1,)), ("f", (1, 2, 3)), ("g", ()), ("g", (1, 2))):
            with self.assertRaises(WrongArguments) as caught:
                completed(program, name, *arguments)
            self.assertEqual(caught.exception.name, name)
        for arguments in ((1, 2), (Record.of(), Record.of()), (Record.of(a=1), 1)):
            with self.assertRaises(TooLarge) as caught:
                completed(program, "f", *arguments)
            self.assertEqual(caught.exception.name, "f")
        self.assertEqual(completed(program, "g", 1), (1,))

    def test_two_hundred_cases(self):
        program = Program.read(CASES_200)
        found = completed(program, "f", Record.of(), 1, 2, 3)
        self.assertEqual(found[0].size, 12)
        self.assertIsNone(completed(program, "f", 0, 1, 2, 3))

    def test_without_parameters(self):
        program = Program.read("def f() = {a: 1}\ndef g() = 1.a")
        self.assertEqual(completed(program, "f"), ())
        self.assertIsNone(completed(program, "g"))


class TestCompleted(CompleteCase):

    def test_what_goes_well_comes_back(self):
        for given in (5, {}, {"a": 1}, {"z": {"a": {}}, "b": 2}):
            self.assert_completed((given,), "p", given)
            self.assert_completed((given, {"a": given}), "{b: p, c: q.a}", given, {"a": given})

    def test_integers_where_a_record_is_needed(self):
        self.assert_completed(None, "p.a", 5)
        self.assert_completed(None, "p | q", {}, 5)
        self.assert_completed(None, "p.a.b", {"a": 1})
        self.assert_completed(None, "if p has a then p.a.b else q.b", {"a": 1}, 5)
        self.assert_completed(({}, {"b": 0}), "if p has a then p.a.b else q.b", {}, {})

    def test_nothing_helps(self):
        self.assert_completed(None, "1.a", {})
        self.assert_completed(None, "p[add a = 1]", {"a": 1, "b": 2})
        self.assert_completed(None, "p + q", {"z": 1}, {"z": 1})
        self.assert_completed(None, "p[rename a to b]", {"b": 1})
        self.assert_completed(None, "p[only a].b", {"b": 1})

    def test_chains_of_readings(self):
        self.assert_completed(({"a": {"b": {"c": 0}}},), "p.a.b.c", {})
        self.assert_completed(({"a": {"b": {"c": 0, "z": 3}, "c": 2}},), "p.a.b.c", {"a": {"b": {"z": 3}, "c": 2}})
        self.assert_completed(({"a": {"b": 7}, "c": 0},), "let x = p.a.b in p.c", {"a": {"b": 7}})
        self.assert_completed(({"a": {"b": {}}},), "p.a.b | {}", {})
        self.assert_completed(({"a": {"a": {"a": {}}}}, {"b": {"a": 3}}), "(p.a.a.a | q.b).a", {"a": {"a": {}}}, {"b": {"a": 3}})

    def test_the_fewest_fields(self):
        self.assert_completed(({"c": 0},), "if p has c then 1 else p.a.b", {})
        self.assert_completed(({"a": {"b": 0}},), "if p has c then p.c.a.b else p.a.b", {"a": {}})
        self.assert_added(2, "if p has c then p.c.a.b else p.a.b", {})
        self.assert_added(1, "(p | q).a", {}, {})
        self.assert_added(2, "(p & q).a", {}, {})
        self.assert_completed(({"a": 0}, {"a": 1}), "(p & q).a", {}, {"a": 1})
        self.assert_completed(None, "(p - q).a", {}, {"a": 1})
        self.assert_completed(({"a": 1}, {}), "(p - q).a", {"a": 1}, {})
        self.assert_added(4, "let x = p.a.b in p.c.d", {})
        self.assert_completed(({"a": 0, "b": 1}, {}), "if p has b then p.a else q.b.c.d", {"b": 1}, {})

    def test_calls(self):
        text = "def g(p) = p.a.b\ndef f(p, q) = let x = g(p) in g(q[put b = p])"
        self.assert_completed(({"a": {"b": 0}}, {"a": {"b": 5}}), text, {}, {"a": {"b": 5}})

    def test_names_that_are_not_mentioned(self):
        self.assert_completed(({"z": 1}, {"z": 0}, {"z": 2}), "(p - q) + r", {"z": 1}, {}, {"z": 2})
        given = {"y": {}, "z": {"a": 1}, "x": 5}
        found = self.assert_added(2, "(p - q) + r", given, {"w": 0}, {"z": 1, "x": {}, "w": 1})
        self.assertEqual(set(found[1]), {"w", "x", "z"})
        self.assert_completed(({"a": 1}, {"a": 0}, {"a": 2}), "((p - q) + r)[drop a]", {"a": 1}, {}, {"a": 2})
        many = {name * 2: index for index, name in enumerate("abcdefghijklmnopqrst")}
        found = self.assert_added(20, "(p - q) + r", many, {}, many)
        self.assertEqual((found[0], set(found[1]), found[2]), (many, set(many), many))

    def test_names_that_are_not_mentioned_deep_within(self):
        self.assert_completed(({"a": {"z": 1}, "b": {"z": 0}}, {"z": {"y": 3}}), "(p.a - p.b) + q", {"a": {"z": 1}}, {"z": {"y": 3}})
        found = self.assert_added(3, "(p - q - r - s) + (p - q[only] | {a: 1})", {"x": 1, "y": 2, "z": 3}, {}, {}, {})
        self.assertEqual(set().union(*found[1:]), {"x", "y", "z"})
        self.assert_completed(None, "(p - q) + (p | r)[put a = 1]", {"z": 1}, {"a": 1}, 5)

    def test_records_that_are_added_get_such_names_too(self):
        text = "(p - q.a.b) + p"
        self.assert_completed(({"x": 1, "y": 2}, {"a": {"b": {"x": 0, "y": 0}}}), text, {"x": 1, "y": 2}, {})
        self.assert_completed(({}, {"a": {"b": {}}}), text, {}, {})

    def test_fields_that_are_there_stay(self):
        given = {"a": {"z": {"y": 1}, "b": {"x": {}}}, "c": {"d": 4}, "long": -5}
        self.assert_completed(({**given, "e": 0},), "let x = p.a.b in p.e", given)

    def test_large_arguments(self):
        names = [one + two for one in "abcdefghijklmnopq" for two in "abcdefghijklmnopq"][:280]
        given = dict.fromkeys(names, 10 ** 30 - 1)
        found = self.assert_added(281, "let x = q.a in (p - x) + r", given, {}, given)
        self.assertEqual(set(found[1]["a"]), set(names))


class TestAllWorlds(CompleteCase):
    """Small functions against all arguments that extend given ones."""

    def fewest(self, runner, given, most):
        """How many fields must be added; None if more than so many, or if there is too much to look at."""
        names = sorted(set(runner.mentioned).union(["q"], *map(inner_names, given)))
        level = [given]
        for count in range(most + 1):
            if any(runner.run("f", one)[0] == "value" for one in level):
                return count
            found = {}
            for one in level:
                found.update((json.dumps(more, sort_keys=True), more) for more in longer_tuples(one, names))
                if len(found) > 2000:
                    return None
            level = list(found.values())
        return None

    def check_text(self, text, given):
        program = Program.read(text)
        runner = model.Runner(model.parse(text))
        found = self.check(program, "f", given)
        added = None if found is None else model.size(found) - model.size(given)
        fewest = self.fewest(runner, given, 3 if found is None else added)
        if found is None:
            self.assertIsNone(fewest, (text, given))
        elif fewest is not None:
            self.assertEqual(added, fewest, (text, given))
        return added

    def value(self, chance, depth):
        if depth == 0 or chance.random() < 0.15:
            return chance.choice([0, 5, {}])
        return {name: self.value(chance, depth - 1) for name in "abyz" if chance.random() < 0.35}

    def test_programs_by_chance(self):
        chance = random.Random(30)
        counts = []
        while len(counts) < 400:
            parameters = list("pqr")[:chance.choice([1, 1, 2, 2, 3])]
            text = samples.definitions(chance, chance.choice([4, 8, 12]), (len(parameters),), chance.choice(["f", "gf"]))
            if chance.random() < 0.6:
                text = samples.two_rows_of_joins(chance, parameters)
            given = tuple(self.value(chance, chance.choice([0, 1, 2, 2])) for _ in parameters)
            try:
                counts.append(self.check_text(text, given))
            except TooLarge:
                pass
        self.assertGreater(min(counts.count(None), counts.count(0), counts.count(1)), 50)
        self.assertGreater(len([count for count in counts if count not in (None, 0, 1)]), 4)

    def test_names_that_are_not_mentioned(self):
        chance = random.Random(31)
        counts = []
        while len(counts) < 200:
            left, right, other = [chance.choice(["p", "q", "r", "(p - q)", "(p | r)", "(q & r)", "p.a", "q.a", "(r[drop a])"]) for _ in range(3)]
            text = f"def f(p, q, r) = ({left} {chance.choice('-&')} {right}) + {other}"
            given = tuple({name: self.value(chance, 1) for name in "ayz" if chance.random() < 0.6} for _ in "pqr")
            counts.append(self.check_text(text, given))
        self.assertGreater(min(counts.count(count) for count in (None, 0, 1, 2)), 5)


if __name__ == "__main__":
    unittest.main()
