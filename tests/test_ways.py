"""Points 14 to 17: ways."""

import inspect
import random
import unittest

from growingrecords import errors, ways
from growingrecords.errors import UnknownFunction, WrongArguments
from growingrecords.programs import Program
from growingrecords.ways import why
from tests import model, samples
from tests.samples import record


class TestInterface(unittest.TestCase):

    def test_function_is_defined_in_its_file(self):
        self.assertEqual(inspect.getmodule(why), ways)
        self.assertEqual(str(inspect.signature(why)), "(program, name, *arguments)")

    def test_wrong_calls(self):
        program = Program.read("def f(p) = p")
        for arguments in ((), (1,), (1, 2)):
            with self.assertRaises(UnknownFunction):
                why(program, "g", *arguments)
        for arguments in ((), (1, 2)):
            with self.assertRaises(WrongArguments):
                why(program, "f", *arguments)

    def test_arguments_by_name(self):
        self.assertEqual(why(program=Program.read("def f() = 1.a"), name="f"), ("number", 10))


class WayCase(unittest.TestCase):

    def way(self, body, *arguments):
        """The way for a body in which an `@` with a digit marks a place; neither of them is a part of it."""
        first, *rest = body.split("@")
        text = f"def f({', '.join('pqrs'[:len(arguments)])}) = {first}"
        self.marks = {}
        for part in rest:
            self.marks[int(part[0])] = len(text)
            text += part[1:]
        return why(Program.read(text), "f", *record(arguments))

    def assert_way(self, expected, body, *arguments):
        """`expected` has the digits of the marks in the body in the place of positions."""
        told = self.way(body, *arguments)
        self.assertEqual(told, self.placed(expected), body)

    def placed(self, way):
        kind, *parts = way
        if kind == "argument":
            return way
        told = []
        for part in parts:
            if isinstance(part, tuple):
                told.append(self.placed(part))
            else:
                told.append(self.marks[part] if isinstance(part, int) else part)
        return (kind, *told)


class TestKinds(WayCase):

    def test_none_if_the_function_goes_well(self):
        self.assertIsNone(self.way("p.a", {"a": 1}))
        self.assertIsNone(self.way("5"))

    def test_record(self):
        self.assert_way(("argument", (0,)), "p.a", 5)
        self.assert_way(("argument", (1, "a", "b")), "q.a.b | p", {}, {"a": {"b": 3}})
        self.assert_way(("argument", (1,)), "p | q", {}, 3)
        self.assert_way(("argument", (0,)), "p | q", 3, 3)
        self.assert_way(("number", 1), "@15.a")
        self.assert_way(("number", 1), "{a: {b: @15}}.a.b.c")
        self.assert_way(("number", 1), "let x = @17 in if p has a then x[put a = 1] else p", {"a": 1})
        self.assert_way(("number", 2), "if p | @25 has a then 1 else 2", {})

    def test_values_keep_where_they_come_from(self):
        self.assert_way(("argument", (0, "a")), "p[rename a to b].b.c", {"a": 1})
        self.assert_way(("argument", (0, "a")), "{x: {y: p.a}}.x.y.c", {"a": 1})
        self.assert_way(("argument", (1, "a")), "(p | q).a.c", {"a": 1}, {"a": 2})
        self.assert_way(("argument", (0, "a")), "(p | q).a.c", {"a": 1}, {})
        self.assert_way(("argument", (0, "a")), "(p & q).a.c", {"a": 1}, {"a": 2})
        self.assert_way(("argument", (0, "a")), "(p - q).a.c", {"a": 1}, {"b": 2})
        self.assert_way(("argument", (1, "a")), "(p + q).a.c", {"b": 1}, {"a": 2})
        self.assert_way(("argument", (0, "a")), "p[put b = 1, drop c, only a b].a.c", {"a": 1})
        self.assert_way(("number", 3), "p[put a = @31].a.c", {"a": {}})
        self.assert_way(("argument", (0, "b", "a")), "p[put a = p.b].a.a.c", {"b": {"a": 1}})

    def test_there(self):
        self.assert_way(("argument", (0,)), "p[add a = 1]", {"a": 1})
        self.assert_way(("put", 1), "p[@1put a = 1][add a = 1]", {})
        self.assert_way(("literal", 1), "@1{a: 1}[add a = 1]")
        self.assert_way(("argument", (0,)), "p[rename a to b]", {"a": 1, "b": 2})
        self.assert_way(("past", 1, ("argument", (0, "c"))), "p.c[@1drop a, add b = 1]", {"c": {"b": 2}})

    def test_rename_tells_of_the_record_before_the_step(self):
        self.assert_way(("put", 1), "p[@1put b = 1, rename a to b]", {"a": 1})

    def test_lacks(self):
        self.assert_way(("argument", (0,)), "p[cut a]", {"b": 1})
        self.assert_way(("argument", (0, "b")), "p.b[rename a to c]", {"b": {}})
        self.assert_way(("literal", 1), "@1{b: 1}.a")

    def test_shared(self):
        self.assert_way(("both", "a", ("argument", (0,)), ("literal", 1)), "p + @1{a: 1}", {"a": 1})
        self.assert_way(("both", "k", ("argument", (0,)), ("argument", (1,))), "p + q", {"z": 1, "k": 1}, {"k": 2, "z": 1})
        self.assert_way(("both", "m", ("argument", (0,)), ("past", 2, ("argument", (1,)))), "p + q[@2put n = p[only m]]",
                        {"m": 1, "a": 1}, {"m": 2, "a": 1})

    def test_shared_with_a_name_that_is_not_mentioned(self):
        self.assert_way(("both", "y", ("left", 1, ("argument", (0,))), ("past", 2, ("argument", (1,)))),
                        "(p @1| {m: 1}) + q[@2drop m]", {"y": 1, "z": 2}, {"m": 1, "y": 2, "z": 2})


class TestLacking(WayCase):

    def lacking(self, expected, body, *arguments):
        """The way by which the record lacks a, also as a `cut` and a `rename` tell it."""
        for step in (".a", "[cut a]", "[rename a to e]", "[rename a to a]"):
            self.assert_way(expected, f"({body}){step}", *arguments)

    def test_put_and_add(self):
        for word in ("put", "add"):
            self.lacking(("past", 1, ("argument", (0,))), f"p[@1{word} b = 1]", {})
            self.lacking(("past", 2, ("past", 1, ("literal", 3))), "@3{}[@1put b = 1, @2add c = 2]")

    def test_drop_and_cut(self):
        for word in ("drop", "cut"):
            self.lacking(("dropped", 1), f"p[@1{word} a]", {"a": 1})
            self.lacking(("past", 1, ("argument", (0,))), f"p[@1{word} b]", {"b": 1})
        self.lacking(("dropped", 1), "p[@1drop a]", {})
        self.lacking(("dropped", 2), "p[@1drop a, @2drop a]", {"a": 1})

    def test_rename(self):
        self.lacking(("dropped", 1), "p[@1rename a to b]", {"a": 1})
        self.lacking(("past", 1, ("argument", (0,))), "p[@1rename b to c]", {"b": 1})
        self.lacking(("past", 1, ("dropped", 2)), "p[@2rename a to b, @1rename b to b]", {"a": 1})

    def test_only(self):
        self.lacking(("dropped", 1), "p[@1only b]", {"a": 1, "b": 1})
        self.lacking(("dropped", 1), "p[@1only]", {})
        self.lacking(("past", 1, ("argument", (0,))), "p[@1only b a]", {"b": 1})
        self.lacking(("past", 1, ("argument", (0,))), "p[@1only a a]", {"b": 1})

    def test_or_and_plus(self):
        for sign in "|+":
            self.lacking(("neither", 1, ("argument", (0,)), ("argument", (1,))), f"p @1{sign} q", {"b": 1}, {})
            self.lacking(("neither", 1, ("dropped", 2), ("literal", 3)), f"p[@2cut a] @1{sign} @3{{}}", {"a": 1})

    def test_minus(self):
        self.lacking(("past", 1, ("argument", (0,))), "p @1- q", {}, {"a": 1})
        self.lacking(("past", 1, ("argument", (0,))), "p @1- q", {}, {})
        self.lacking(("removed", 1, ("argument", (1,))), "p @1- q", {"a": 1}, {"a": 1})
        self.lacking(("removed", 1, ("put", 2)), "p @1- q[@2put a = 1]", {"a": 1}, {})

    def test_and(self):
        self.lacking(("past", 1, ("argument", (0,))), "p @1& q", {}, {"a": 1})
        self.lacking(("removed", 1, ("argument", (1,))), "p @1& q", {"a": 1}, {})
        self.lacking(("removed", 1, ("dropped", 2)), "p @1& q[@2drop a]", {"a": 1}, {})

    def test_nested(self):
        way = ("neither", 1, ("removed", 2, ("right", 3, ("literal", 4))), ("past", 5, ("dropped", 6)))
        self.lacking(way, "p @2- (q @3| @4{a: 1}) @1| r[@6only c, @5put b = 1]", {"a": 1}, {}, {})


class TestHaving(WayCase):

    def having(self, expected, body, *arguments):
        """The way by which the record has a, also as a `rename` and a join tell it."""
        self.assert_way(expected, f"({body})[add a = 1]", *arguments)
        self.assert_way(("past", 8, expected), f"({body})[@8put e = 1, rename e to a]", *arguments)
        self.assert_way(("both", "a", expected, ("literal", 9)), f"({body}) + @9{{a: 1}}", *arguments)
        self.assert_way(("both", "a", ("literal", 9), expected), f"@9{{a: 1}} + ({body})", *arguments)

    def test_given_and_literal(self):
        self.having(("argument", (0,)), "p", {"a": 1})
        self.having(("argument", (0, "c")), "p.c", {"c": {"a": 1}})
        self.having(("literal", 1), "@1{b: 1, a: 2}")

    def test_steps(self):
        self.having(("put", 1), "p[@1put a = 2]", {"a": 1})
        self.having(("put", 1), "p[@1add a = 2]", {})
        self.having(("put", 1), "p[@1rename b to a]", {"b": 1})
        self.having(("put", 1), "p[@1rename a to a]", {"a": 1})
        for change in ("put b = 1", "add b = 1", "drop b", "rename d to b", "only a", "cut d"):
            self.having(("past", 1, ("argument", (0,))), f"p[@1{change}]", {"a": 1, "d": 1})
        self.having(("past", 2, ("past", 1, ("put", 3))), "p[@3put a = 2, @1drop b, @2only a a]", {"a": 1})

    def test_or_and_plus(self):
        self.having(("right", 1, ("argument", (1,))), "p @1| q", {"a": 1}, {"a": 1})
        self.having(("left", 1, ("argument", (0,))), "p @1| q", {"a": 1}, {})
        self.having(("right", 1, ("argument", (1,))), "p @1+ q", {}, {"a": 1})
        self.having(("left", 1, ("argument", (0,))), "p @1+ q", {"a": 1}, {})

    def test_minus_and_and(self):
        self.having(("stays", 1, ("argument", (0,)), ("argument", (1,))), "p @1- q", {"a": 1}, {})
        self.having(("stays", 1, ("argument", (0,)), ("argument", (1,))), "p @1& q", {"a": 1}, {"a": 1})
        self.having(("stays", 1, ("argument", (0,)), ("dropped", 2)), "p @1- q[@2drop a]", {"a": 1}, {"a": 1})
        self.having(("stays", 1, ("argument", (0,)), ("put", 2)), "p @1& q[@2put a = 1]", {"a": 1}, {"a": 1})

    def test_nested(self):
        way = ("left", 1, ("stays", 2, ("past", 3, ("argument", (0,))), ("neither", 4, ("literal", 5), ("argument", (1,)))))
        self.having(way, "p[@3drop b] @2- (@5{} @4| q) @1| q", {"a": 1}, {})


class TestCalls(unittest.TestCase):

    def test_ways_lead_through_calls(self):
        text = "def g(p, q) = p[drop a] | q\ndef f(p) = g(p, {b: p}).a"
        told = ("neither", text.find("|"), ("dropped", text.find("drop")), ("literal", text.find("{")))
        self.assertEqual(why(Program.read(text), "f", record({"a": 1})), told)
        text = "def g() = 7\ndef f(p) = p | {x: g()}.x"
        self.assertEqual(why(Program.read(text), "f", record({})), ("number", text.find("7")))


class TestAgainstTheModel(unittest.TestCase):

    def test_programs_by_chance(self):
        chance = random.Random(12)
        seen = {}

        def note(way):
            seen[way[0]] = seen.get(way[0], 0) + 1
            for part in way[1:]:
                if isinstance(part, tuple) and part and way[0] != "argument":
                    note(part)

        for _ in range(1500):
            text = samples.definitions(chance, 20)
            try:
                program = Program.read(text)
            except errors.TooLarge:
                continue
            runner = model.Runner(model.parse(text))
            name = program.names[-1]
            for _ in range(10):
                arguments = tuple(any_record(chance, 3) for _ in program.parameters(name))
                runner.run(name, arguments)
                told = why(program, name, *record(arguments))
                self.assertEqual(told, runner.way, (text, arguments))
                if told is not None:
                    note(told)
        words = "argument literal past dropped neither removed put right left stays both number".split()
        self.assertEqual(set(seen), set(words))
        self.assertGreater(min(seen.values()), 10)


def any_record(chance, deepest):
    if deepest == 0 or chance.random() < 0.1:
        return 5
    return {name: any_record(chance, deepest - 1) for name in ("a", "b", "y", "z") if chance.random() < 0.5}


if __name__ == "__main__":
    unittest.main()
