"""Programs as heavy as they may be are answered in a few seconds."""

import time
import unittest

from growingrecords.cases import case_of, cases
from growingrecords.errors import TooLarge
from growingrecords.kinds import failing, going, taking
from growingrecords.programs import Program
from growingrecords.running import outcome
from growingrecords.ways import why
from tests.samples import record

EIGHT = "abcdefgh"
PLUSSES = " + {}" * 20
DEEP = "p" + ".a" * 79
RENAMES = "p[rename a to b, rename b to c, rename c to d, rename d to e]"


def body(text, parameters="p, q, r, s"):
    return Program.read(f"def f({parameters}) = {text}")


class TestHeavy(unittest.TestCase):

    def setUp(self):
        self.begin = time.monotonic()

    def tearDown(self):
        self.assertLess(time.monotonic() - self.begin, 10)

    def test_many_joins_of_many_paths_and_names(self):
        literal = "{" + ", ".join(f"{name}: 1" for name in EIGHT) + "}"
        for text in ("(p | q | r | s) + (p & q) + (r - s)" + PLUSSES, "(p.a | p.b | p.c | q.a | q.b | q.c)" + PLUSSES + "[only d e f g h]",
                     f"(p - q - r - s) + ({literal} - p)" + PLUSSES[:50], "p" + " + q - q" * 19, "p" + " + {}" * 39,
                     "((p - q) | (r & s)) + ((q - p) | (s - r)) + ((p & q) - (r | s)) + ((p & r) - (q | s))[drop a, drop b, drop c, drop d]"):
            program = body(text)
            try:
                for case in cases(program, "f"):
                    self.assertIn(case.example, case)
            except TooLarge:
                self.fail(text)

    def test_cases_that_are_too_many(self):
        tests = "".join(f"let x = if p has {name} and q has {name} then 1 else 2 in " for name in EIGHT)
        for text in (tests + "1", "p" + "".join(f" + p.{name} + {{}}" for name in EIGHT)):
            with self.assertRaises(TooLarge):
                cases(body(text), "f")

    def test_rows_of_calls(self):
        lines = ["def fa(p) = p.a"]
        for letter, before in zip("bcdefghijklmnopqrst", "abcdefghijklmnopqrs"):
            lines.append(f"def f{letter}(p) = f{before}(p)[put a = p.a].a")
        program = Program.read("\n".join(lines[:9]))
        name = program.names[-1]
        self.assertEqual(len(cases(program, name)), 4)
        kind, _, calls, _ = outcome(program, name, 1)[1:]
        self.assertEqual((kind, len(calls)), ("record", 8))

    def test_deep_programs(self):
        for text in (DEEP, "{a: " * 79 + "p" + "}" * 79, "p | (" * 39 + "p" + ")" * 39, "p[put a = " * 39 + "p" + "]" * 39,
                     "if p has a then " * 19 + "p" + " else p" * 19, "let p = {a: p}.a in " * 6 + "p", RENAMES):
            program = body(text, "p")
            for case in cases(program, "f"):
                told = outcome(program, "f", *case.example)
                self.assertEqual(told[0], case.outcome[0])
                self.assertEqual(why(program, "f", *case.example) is None, told[0] == "value")

    def test_asking_again_and_again(self):
        program = body(DEEP, "p")
        arguments = record(({"a": {"a": {"b": 1}}},))
        for _ in range(200):
            self.assertEqual(case_of(program, "f", *arguments).outcome[1], "lacks")
            self.assertNotIn(arguments, going(program, "f"))

    def test_kinds_of_functions_with_a_product_of_a_thousand_cases(self):
        program = Program.read("def f(p, q) = let x = if q has a then 1 else 2 in p" + ".a" * 25
                               + "\ndef g(p, q) = p + q.a\ndef h(p, q) = let x = p.b + {a: 1} in (p - q) + q.b")
        self.assertEqual([len(cases(program, name)) for name in "fgh"], [103, 8, 10])
        f, g, h = [going(program, name) for name in "fgh"]
        for one, two in ((f, g), (g, f), (g, h), (f, failing(program, "g")), (taking(program, "f", 22, branch=True), f)):
            for kind in (one | two, one & two, one - two):
                self.assertIs(kind.member() in kind if kind else True, True)
            self.assertIs(one & two <= one, True)

    def test_large_arguments(self):
        names = [first + second for first in "abcdefghijklmno" for second in "abcdefghijklmnopqrst"]
        large = record(dict.fromkeys(names, 10 ** 30 - 1))
        program = body("p" + " + {}" * 39, "p")
        self.assertEqual(outcome(program, "f", large), ("value", large))
        self.assertEqual(why(body("p + q", "p, q"), "f", large, large), ("both", "aa", ("argument", (0,)), ("argument", (1,))))
        self.assertEqual(case_of(program, "f", large).outcome[0], "value")


if __name__ == "__main__":
    unittest.main()
