"""Points 13 and 21: reports."""

import inspect
import random
import unittest

from growingrecords import reports
from growingrecords.cases import cases
from growingrecords.errors import TooLarge, UnknownFunction
from growingrecords.programs import Program
from growingrecords.reports import failures, table
from tests import model, samples
from tests.test_cases import CASES_200, CASES_201

GROW = "def grow(p) = if p has a then p[rename a to b] else p[add a = 1]"


def told(text, name=None):
    program = Program.read(text if text.startswith("def") else "def f(p, q, r, s) = " + text)
    return failures(program, name or program.names[-1])


def order(row):
    """What the rows of `failures` are ordered by."""
    kind, at, calls, name, _ = row
    return at, calls, kind, name is not None, name or ""


class TestInterface(unittest.TestCase):

    def test_all_are_defined_in_their_file(self):
        for function in (failures, table):
            self.assertEqual(inspect.getmodule(function), reports)
            self.assertEqual(str(inspect.signature(function)), "(program, name)")

    def test_arguments_by_name_and_kinds_of_values(self):
        program = Program.read(GROW)
        rows = failures(name="grow", program=program)
        self.assertIsInstance(rows, list)
        for row in rows:
            self.assertIsInstance(row, tuple)
            self.assertEqual(len(row), 5)
            self.assertIsInstance(row[2], tuple)
        lines = table(name="grow", program=program)
        self.assertIsInstance(lines, list)
        self.assertTrue(all(isinstance(line, str) for line in lines))

    def test_new_lists_each_time(self):
        program = Program.read(GROW)
        rows, lines = failures(program, "grow"), table(program, "grow")
        before = list(rows), list(lines)
        rows.clear()
        lines.append("goes well: 7")
        self.assertEqual((failures(program, "grow"), table(program, "grow")), before)

    def test_errors(self):
        program = Program.read(CASES_201)
        for function in (failures, table):
            with self.assertRaises(UnknownFunction) as caught:
                function(program, "g")
            self.assertEqual(caught.exception.name, "g")
            with self.assertRaises(TooLarge) as caught:
                function(program, "f")
            self.assertEqual(caught.exception.name, "f")

    def test_two_hundred_cases(self):
        program = Program.read(CASES_200)
        # Each `.a` fails in two ways.
        self.assertEqual(len(failures(program, "f")), 24)
        self.assertEqual(table(program, "f")[-1], "goes well: 12")


class TestFailures(unittest.TestCase):

    def test_example_of_the_document(self):
        has, rename = GROW.find("has"), GROW.find("rename")
        self.assertEqual(told(GROW), [("record", has, (), None, 0), ("there", rename, (), "b", 2)])

    def test_no_failures(self):
        self.assertEqual(told("p"), [])
        self.assertEqual(told("if p is record then p | {} else 1"), [])

    def test_fewest_fields(self):
        rows = told("let x = p.a.b in (q - r) + s")
        self.assertEqual([row[4] for row in rows], [0, 0, 1, 1, 2, 2, 4, 4, 4])
        self.assertEqual([row[0] for row in rows], ["lacks", "record"] * 2 + ["record"] * 2 + ["shared"] * 3)
        self.assertEqual([row[3] for row in rows[-4:]], [None, None, "a", "b"])

    def test_without_duplicates(self):
        """Cases that fail alike are told once, with the fewest fields of all of them."""
        rows = told("let x = if p has a then 1 else 2 in let y = if p has b then 1 else p in q.c")
        self.assertEqual([row[4] for row in rows], [0, 0, 0])
        rows = told("let x = if p has a and not p has b then 1 else 2 in if p has a then q.c else 1")
        self.assertEqual([(row[0], row[4]) for row in rows], [("record", 0), ("lacks", 1), ("record", 1)])
        rows = told("let x = if p has a and not p has b then 1.a else 2 in if p has a then q.c else 1")
        self.assertEqual([(row[0], row[4]) for row in rows], [("record", 0), ("record", 1), ("lacks", 2), ("record", 2)])

    def test_order_by_position(self):
        text = "def g(p) = p.a\ndef f(p, q) = g(q).b.c + g(p)"
        rows = told(text)
        self.assertEqual([row[1] for row in rows], sorted(row[1] for row in rows))
        self.assertEqual(rows[0][1], text.find("."))

    def test_order_by_calls(self):
        text = "def g(p) = p.a\ndef h(p) = g(p).b\ndef f(p, q) = let x = g(h(p)) in let y = g(p) in g(q)"
        rows = [row for row in told(text) if row[1] == text.find(".")]
        places = [at for at in range(len(text)) if text.startswith(("g(", "h("), at) and text[at - 1] in " ("][2:]
        second = text.find("g(p).b")
        first, inner, third, last = [at for at in places if at > text.find("def f")]
        self.assertEqual([row[2] for row in rows], sorted([(first,), (first,), (inner, second), (inner, second), (last,), (last,)]))
        self.assertNotIn((third,), [row[2] for row in rows])

    def test_shorter_calls_come_first(self):
        """One function that is called in a test of a body and by another function that is called there."""
        text = "def g(p) = p.a\ndef h(p, q) = g(q)\ndef f(p, q) = let x = g(p) in h(p, q)"
        calls = [row[2] for row in told(text)]
        self.assertEqual(calls, sorted(calls))
        self.assertEqual(sorted({len(one) for one in calls}), [1, 2])

    def test_order_by_kind_and_name(self):
        rows = told("p[rename b to a] + q[only a b]")
        rename = [row for row in rows if row[1] == rows[0][1]]
        self.assertEqual([(row[0], row[3], row[4]) for row in rename], [("lacks", "b", 0), ("record", None, 0), ("there", "a", 2)])
        plus = [row for row in rows if row[0] == "shared"]
        self.assertEqual([(row[3], row[4]) for row in plus], [("a", 2)])
        rows = told("p[drop c] + q")
        self.assertEqual([(row[0], row[3]) for row in rows], [("record", None), ("record", None), ("shared", None)])
        rows = told("{a: 1, b: 1} + q | p")
        self.assertEqual([(row[0], row[3], row[4]) for row in rows], [("record", None, 0), ("shared", "a", 1), ("shared", "b", 1),
                                                                     ("record", None, 0)])
        rows = told("p + q | {a: 1, c: 1, b: 1}")
        self.assertEqual([row[3] for row in rows if row[0] == "shared"], [None, "a", "b", "c"])

    def test_without_parameters(self):
        self.assertEqual(told("def f() = 1.a"), [("record", 11, (), None, 0)])
        self.assertEqual(told("def f() = {b: 1}"), [])


class TestTable(unittest.TestCase):

    def lines(self, text):
        program = Program.read(text)
        return table(program, program.names[-1])

    def test_example(self):
        self.assertEqual(self.lines(GROW), ["   19 record -         0    0", "   32 there  b         0    2", "goes well: 0"])

    def test_columns(self):
        text = "def g(p) = p.abcdefgh\ndef f(p, q) = g(p) + g(q)"
        dot, first, second, plus = text.find("."), text.find("g(p) +"), text.find("g(q)"), text.find("+")
        self.assertEqual((dot, first, second, plus), (12, 36, 43, 41))
        self.assertEqual(self.lines(text), [
            "   12 lacks  abcdefgh  1    0", "   12 record -         1    0", "   12 lacks  abcdefgh  1    1", "   12 record -         1    1",
            "   41 record -         0    2", "   41 shared -         0    4", "   41 shared abcdefgh  0    4", "goes well: 2"])

    def test_large_numbers(self):
        text = "\n" * 3000 + "def f(p) = p" + ".a" * 70 + " + {}"
        lines = self.lines(text)
        self.assertEqual(lines[0], " 3012 lacks  a         0    0")
        self.assertEqual(lines[-2], " 3153 record -         0   70")
        self.assertEqual(lines[-1], "goes well: 70")
        text = "def fa(p) = p.a" + "".join(f"\ndef f{second}(p) = f{first}(p)" for first, second in zip("abcdefghijkl", "bcdefghijklm"))
        self.assertEqual(self.lines(text), ["   13 lacks  a        12    0", "   13 record -        12    0", "goes well: 1"])

    def test_last_line(self):
        self.assertEqual(self.lines("def f(p) = p.a.a[put b = 1]")[-1], "goes well: 2")
        self.assertEqual(self.lines("def f(p) = p | 1"), ["   13 record -         0    0", "never goes well"])
        self.assertEqual(self.lines("def f() = 1"), ["goes well: 0"])
        self.assertEqual(self.lines("def f(p) = if p has a then 1.a else p.b.c")[-1], "goes well: 2")
        self.assertEqual(self.lines("def f(p) = if p has a then p.b.c else p.b.c.d")[-1], "goes well: 3")

    def test_a_line_for_each_failure(self):
        chance = random.Random(21)
        for _ in range(50):
            program = Program.read(samples.definitions(chance))
            name = program.names[-1]
            rows, lines = failures(program, name), table(program, name)
            self.assertEqual(len(lines), len(rows) + 1)
            for (kind, at, calls, missing, least), line in zip(rows, lines):
                self.assertEqual(line, "%5d %-6s %-8s %2d %4d" % (at, kind, missing or "-", len(calls), least))


class TestAllWorlds(unittest.TestCase):
    """Small functions against all worlds of arguments."""

    def check(self, text):
        program = Program.read(text)
        name = program.names[-1]
        runner = model.Runner(model.parse(text))
        least, well = {}, []
        for world in model.worlds([(runner, name)], 1000):
            ending = runner.run(name, world)
            size = model.size(world)
            if ending[0] == "failure":
                least[ending[1:]] = min(size, least.get(ending[1:], size))
            else:
                well.append(size)
        rows = sorted([(*failure, size) for failure, size in least.items()], key=order)
        self.assertEqual(failures(program, name), rows, text)
        self.assertEqual(table(program, name)[-1], f"goes well: {min(well)}" if well else "never goes well")
        return len(rows)

    def test_programs_by_chance(self):
        chance = random.Random(22)
        counts = []
        while len(counts) < 600:
            try:
                counts.append(self.check(samples.definitions(chance)))
            except (TooLarge, model.TooMany):
                pass
        self.assertGreater(len([count for count in counts if count > 3]), 100)

    def test_least_is_that_of_the_examples(self):
        program = Program.read("def f(p, q, r) = (p.a - q) + r.b.c")
        for kind, at, calls, name, least in failures(program, "f"):
            found = [case for case in cases(program, "f") if case.outcome == ("failure", kind, at, calls, name)]
            self.assertEqual(min(sum(getattr(value, "size", 0) for value in case.example) for case in found), least)


if __name__ == "__main__":
    unittest.main()
