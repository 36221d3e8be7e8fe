"""Programs as heavy as they may be are answered in a few seconds."""

import time
import unittest

from growingrecords.cases import case_of, cases
from growingrecords.comparing import alike, parting, refines
from growingrecords.completing import completed
from growingrecords.errors import TooLarge
from growingrecords.kinds import failing, going, taking
from growingrecords.libraries import Library
from growingrecords.programs import Program
from growingrecords.reports import failures, table
from growingrecords.running import outcome
from growingrecords.ways import why
from tests.samples import record

EIGHT = "abcdefgh"
PLUSSES = " + {}" * 20
DEEP = "p" + ".a" * 79
RENAMES = "p[rename a to b, rename b to c, rename c to d, rename d to e]"


def body(text, parameters="p, q, r, s"):
    return Program.read(f"def f({parameters}) = {text}")


class TestHeavy(unittest.TestCase):

    def setUp(self):
        self.begin = time.monotonic()

    def tearDown(self):
        self.assertLess(time.monotonic() - self.begin, 10)

    def test_many_joins_of_many_paths_and_names(self):
        literal = "{" + ", ".join(f"{name}: 1" for name in EIGHT) + "}"
        for text in ("(p | q | r | s) + (p & q) + (r - s)" + PLUSSES, "(p.a | p.b | p.c | q.a | q.b | q.c)" + PLUSSES + "[only d e f g h]",
                     f"(p - q - r - s) + ({literal} - p)" + PLUSSES[:50], "p" + " + q - q" * 19, "p" + " + {}" * 39,
                     "((p - q) | (r & s)) + ((q - p) | (s - r)) + ((p & q) - (r | s)) + ((p & r) - (q | s))[drop a, drop b, drop c, drop d]"):
            program = body(text)
            try:
                for case in cases(program, "f"):
                    self.assertIn(case.example, case)
            except TooLarge:
                self.fail(text)

    def test_cases_that_are_too_many(self):
        tests = "".join(f"let x = if p has {name} and q has {name} then 1 else 2 in " for name in EIGHT)
        for text in (tests + "1", "p" + "".join(f" + p.{name} + {{}}" for name in EIGHT)):
            with self.assertRaises(TooLarge):
                cases(body(text), "f")

    def test_rows_of_calls(self):
        lines = ["def fa(p) = p.a"]
        for letter, before in zip("bcdefghijklmnopqrst", "abcdefghijklmnopqrs"):
            lines.append(f"def f{letter}(p) = f{before}(p)[put a = p.a].a")
        program = Program.read("\n".join(lines[:9]))
        name = program.names[-1]
        self.assertEqual(len(cases(program, name)), 4)
        kind, _, calls, _ = outcome(program, name, 1)[1:]
        self.assertEqual((kind, len(calls)), ("record", 8))

    def test_deep_programs(self):
        for text in (DEEP, "{a: " * 79 + "p" + "}" * 79, "p | (" * 39 + "p" + ")" * 39, "p[put a = " * 39 + "p" + "]" * 39,
                     "if p has a then " * 19 + "p" + " else p" * 19, "let p = {a: p}.a in " * 6 + "p", RENAMES):
            program = body(text, "p")
            for case in cases(program, "f"):
                told = outcome(program, "f", *case.example)
                self.assertEqual(told[0], case.outcome[0])
                self.assertEqual(why(program, "f", *case.example) is None, told[0] == "value")

    def test_asking_again_and_again(self):
        program = body(DEEP, "p")
        arguments = record(({"a": {"a": {"b": 1}}},))
        for _ in range(200):
            self.assertEqual(case_of(program, "f", *arguments).outcome[1], "lacks")
            self.assertNotIn(arguments, going(program, "f"))

    def test_kinds_of_functions_with_a_product_of_a_thousand_cases(self):
        program = Program.read("def f(p, q) = let x = if q has a then 1 else 2 in p" + ".a" * 25
                               + "\ndef g(p, q) = p + q.a\ndef h(p, q) = let x = p.b + {a: 1} in (p - q) + q.b")
        self.assertEqual([len(cases(program, name)) for name in "fgh"], [103, 8, 10])
        f, g, h = [going(program, name) for name in "fgh"]
        for one, two in ((f, g), (g, f), (g, h), (f, failing(program, "g")), (taking(program, "f", 22, branch=True), f)):
            for kind in (one | two, one & two, one - two):
                self.assertIs(kind.member() in kind if kind else True, True)
            self.assertIs(one & two <= one, True)

    def compare(self, first, second, parameters="p, q, r, s"):
        """Whether two bodies are alike, and whether the second one refines the first one; None for what is too large."""
        program = Program.read(f"def f({parameters}) = {first}\ndef g({parameters}) = {second}")
        answers = []
        for call in (alike, refines, parting):
            try:
                answers.append(call(program, "f", "g"))
            except TooLarge as error:
                self.assertEqual(error.name, "f")
                answers.append(None)
        return answers[:2]

    def test_comparing_functions_with_few_cases_and_paths(self):
        six = "(p | q | r | s | p.a | q.a)"
        self.assertEqual(self.compare(f"{six} - {six}", "{} & " + six), [True, True])
        self.assertEqual(self.compare(f"({six} - r) | ({six} & r)", f"let x = {six} in (x & r) | (x - r)"), [True, True])
        self.assertEqual(self.compare(f"({six} - r) | ({six} & s)", f"let x = {six} in (x & s) | (x - s)"), [False, False])
        inner, other = "p", "p"
        for name in EIGHT[:6]:
            inner = f"({{{name}: {inner}}} & (q | r | s)) | p"
            other = f"({{{name}: {other}}} & (s | (r | q))) | (p - {{}})"
        self.assertEqual(self.compare(inner, other), [True, True])
        self.assertEqual(self.compare(inner, other.replace("{a: p}", "{a: q}")), [False, False])
        nested = "{a: " * 38 + "p | q" + "}" * 38
        self.assertEqual(self.compare(nested, nested.replace("p | q", "p | q | {}")), [True, True])
        self.assertEqual(self.compare(nested, nested.replace("p | q", "q | p")), [False, False])
        self.assertEqual(self.compare("p" + PLUSSES, PLUSSES[3:] + " + p"), [True, True])

    def test_comparing_functions_with_many_cases(self):
        tests = ["".join(f"let x = if {one} has {name} then 1 else 2 in " for name in EIGHT[:7]) for one in "pq"]
        both = "let y = p | q in "
        for first, second in ((tests[0] + "p | q", tests[0] + "p | q | {}"), (tests[0] + "p | q", tests[1] + "(p | q) | {}"),
                              (tests[0] + "q | p", tests[0] + "q | p[drop a]")):
            equal = second.endswith("{}")
            self.assertIn(self.compare(both + first, both + second, "p, q"), [[equal, equal], [None, None]])
        twenty = " | ".join(f"{one}.{name}" for name in "abcde" for one in "pqrs")
        self.assertIn(self.compare(twenty, twenty + " | {}"), [[True, True], [None, None]])
        self.assertIn(self.compare(twenty, twenty.replace("p.a | q.a", "q.a | p.a")), [[False, False], [None, None]])
        chains = "let x = p" + ".a" * 25 + " in q" + ".a" * 25, "let x = q" + ".a" * 25 + " in q" + ".a" * 25
        self.assertIn(self.compare(*chains), [[False, True], [None, True], [None, None]])

    def test_completing_and_reporting(self):
        tests = "".join(f"let x = if p has {name} then 1 else 2 in " for name in EIGHT[:6])
        program = body("let x = (p - q - s) + (r - p.g) in " + tests + "p")
        names = [first + second for first in "abcdefghijklmno" for second in "abcdefghijklmnopqrst"]
        large = record(dict.fromkeys(names, 1))
        found = completed(program, "f", large, record({}), large, record({}))
        self.assertEqual(sum(value.size for value in found), 901)
        self.assertEqual(table(program, "f")[-1], "goes well: 1")
        for text in (DEEP, RENAMES, "p" + "[rename a to a]" * 4, "p" + ".a" * 30 + PLUSSES[:60]):
            program = body(text, "p")
            self.assertEqual(len(table(program, "f")), len(failures(program, "f")) + 1)
            found = completed(program, "f", record({}))
            self.assertEqual(outcome(program, "f", *found)[0], "value")

    def test_a_library_of_twenty_functions(self):
        lines = ["def fa(p, q) = p + q"]
        for before, letter in zip("abcdefghijklmnopqrs", "bcdefghijklmnopqrst"):
            lines.append(f"def f{letter}(p, q) = if p has a then f{'a' if letter > 'i' else before}(p, q) else p | q")
        library = Library("\n".join(lines))
        self.assertEqual(len(library.program.names), 20)
        for name in library.program.names[:9]:
            library.replace(name, "p | q")
        self.assertEqual(library.replace_all(*[(name, "q | (p - q)") for name in library.program.names[:9]]), 9)
        for _ in range(10):
            self.assertTrue(library.undo())
        self.assertFalse(library.undo())
        self.assertEqual(library.program.written(), "\n".join(lines))

    def test_large_arguments(self):
        names = [first + second for first in "abcdefghijklmno" for second in "abcdefghijklmnopqrst"]
        large = record(dict.fromkeys(names, 10 ** 30 - 1))
        program = body("p" + " + {}" * 39, "p")
        self.assertEqual(outcome(program, "f", large), ("value", large))
        self.assertEqual(why(body("p + q", "p, q"), "f", large, large), ("both", "aa", ("argument", (0,)), ("argument", (1,))))
        self.assertEqual(case_of(program, "f", large).outcome[0], "value")


if __name__ == "__main__":
    unittest.main()
