"""Points 12 and 13: runs."""

import inspect
import random
import unittest

from growingrecords import errors, running
from growingrecords.errors import Failure, UnknownFunction, WrongArguments
from growingrecords.programs import Program
from growingrecords.records import Record
from growingrecords.running import outcome, run
from tests import model, samples
from tests.samples import plain, record


class RunCase(unittest.TestCase):

    def ended(self, text, *arguments):
        """The outcome of the last function of a text; the body alone may be given as a text, too."""
        if not text.startswith("def"):
            text = f"def f({', '.join('pqrs'[:len(arguments)])}) = {text}"
        program = Program.read(text)
        name = program.names[-1]
        before = [str(value) for value in arguments]
        told = outcome(program, name, *record(arguments))
        self.assertEqual([str(value) for value in arguments], before)
        if told[0] == "failure":
            with self.assertRaises(Failure) as caught:
                run(program, name, *record(arguments))
            failure = caught.exception
            self.assertEqual(told[1:], (failure.kind, failure.at, failure.calls, failure.name))
        else:
            self.assertEqual(told, ("value", run(program, name, *record(arguments))))
        return told

    def assert_value(self, expected, text, *arguments):
        told = self.ended(text, *arguments)
        self.assertEqual((told[0], plain(told[-1])), ("value", expected), text)

    def assert_fails(self, kind, sign, name, body, *arguments):
        """The body fails at the first place of `sign` behind the mark `!`, which is left out of the text."""
        head = f"def f({', '.join('pqrs'[:len(arguments)])}) = "
        at = len(head) + body.find("!")
        text = head + body.replace("!", "")
        self.assertEqual(text[at:at + len(sign)], sign)
        self.assertEqual(self.ended(text, *arguments), ("failure", kind, at, (), name), text)


class TestInterface(unittest.TestCase):

    def test_functions_are_defined_in_their_file(self):
        for function in (run, outcome):
            self.assertEqual(inspect.getmodule(function), running)
            self.assertEqual(str(inspect.signature(function)), "(program, name, *arguments)")

    def test_example_of_the_document(self):
        program = Program.read("def grow(p) = if p has a then p[rename a to b] else p[add a = 1]")
        self.assertEqual(outcome(program, "grow", Record.make({"a": 5, "b": 6})), ("failure", "there", 32, (), "b"))

    def test_unknown_functions_go_before_wrong_arguments(self):
        program = Program.read("def f(p) = p\ndef g() = 1")
        for function in (run, outcome):
            for arguments in ((), (1,), (1, 2)):
                with self.assertRaises(UnknownFunction) as caught:
                    function(program, "h", *arguments)
                self.assertEqual(caught.exception.name, "h")
            for name, arguments in (("f", ()), ("f", (1, 2)), ("g", (1,))):
                with self.assertRaises(WrongArguments) as caught:
                    function(program, name, *arguments)
                self.assertEqual(caught.exception.name, name)

    def test_arguments_by_name(self):
        program = Program.read("def g() = 1")
        self.assertEqual(run(program=program, name="g"), 1)
        self.assertEqual(outcome(name="g", program=program), ("value", 1))

    def test_failure_is_an_error_of_the_package(self):
        with self.assertRaises(errors.RecordsError):
            run(Program.read("def g() = 1.a"), "g")


class TestValues(RunCase):

    def test_numbers_and_parameters(self):
        self.assert_value(0, "0")
        self.assert_value(10 ** 30 - 1, "9" * 30)
        for value in (0, -1, 10 ** 30 - 1, 1 - 10 ** 30, {}, {"a": {"b": -5}}):
            self.assert_value(value, "p", value)
            self.assert_value({"x": value, "y": value}, "{x: p, y: p}", value)

    def test_literals(self):
        self.assert_value({}, "{}")
        self.assert_value({"a": 1, "b": {"c": {}}}, "{b: {c: {}}, a: 1}")

    def test_names_that_are_not_mentioned(self):
        long = "n" * 30
        self.assert_value({long: 1, "a": 2, "z": {"y": 3}}, "p[put a = 2]", {long: 1, "z": {"y": 3}})
        self.assert_value({"z": 1, "y": 2}, "p + q", {"z": 1}, {"y": 2})
        self.assert_value({"z": 1}, "p - q", {"z": 1, "y": 3}, {"y": 2})
        self.assert_value({"y": 3}, "p & q", {"z": 1, "y": 3}, {"y": 2})
        self.assert_value({}, "p[only]", {"z": 1})

    def test_joins(self):
        left, right = {"a": 1, "b": 2}, {"b": 3, "c": 4}
        self.assert_value({"a": 1, "b": 3, "c": 4}, "p | q", left, right)
        self.assert_value({"a": 1}, "p - q", left, right)
        self.assert_value({"b": 2}, "p & q", left, right)
        self.assert_value({"a": 1, "b": 2, "c": 4}, "p + q[drop b]", left, right)
        self.assert_value({"a": 1, "c": 5}, "p | q - q | {c: 5} & p | {c: 5}", {"a": 1}, {})

    def test_all_signs_bind_from_the_left(self):
        self.assert_value({"a": 2}, "{a: 1} - {a: 1} | {a: 2}")
        self.assert_value({}, "{a: 1} - ({a: 1} | {a: 2})")
        self.assert_value({"b": 1}, "{a: 1} | {b: 1} & {b: 2}")

    def test_steps(self):
        self.assert_value(5, "p.a", {"a": 5})
        self.assert_value(6, "p.a.b", {"a": {"b": 6}})
        self.assert_value({"a": 7}, "p[put a = 7]", {"a": 5})
        self.assert_value({"a": 7, "b": 1}, "p[put a = 7]", {"b": 1})
        self.assert_value({"a": {"b": 1}, "b": 1}, "p[add a = p]", {"b": 1})
        self.assert_value({"b": 1}, "p[cut a]", {"a": 5, "b": 1})
        self.assert_value({"b": 1}, "p[drop a]", {"a": 5, "b": 1})
        self.assert_value({"b": 1}, "p[drop a]", {"b": 1})
        self.assert_value({"b": 5, "c": 1}, "p[rename a to b]", {"a": 5, "c": 1})
        self.assert_value({"a": 5, "c": 1}, "p[rename a to a]", {"a": 5, "c": 1})
        self.assert_value({"a": 5}, "p[only a b]", {"a": 5, "c": 1})
        self.assert_value({"a": 5}, "p[only a b a]", {"a": 5, "c": 1})
        self.assert_value({}, "p[only]", {"a": 5, "c": 1})

    def test_steps_one_after_another(self):
        self.assert_value({"a": 1}, "p[rename a to b, rename b to c, rename c to a]", {"a": 1})
        self.assert_value(2, "p[put a = 1][put a = 2].a", {})
        self.assert_value({"b": 1, "a": 2}, "p[rename a to c, rename b to a, rename c to b]", {"a": 1, "b": 2})

    def test_let(self):
        self.assert_value({"a": 3}, "let x = {a: p} in x", 3)
        self.assert_value(2, "let x = 1 in let x = 2 in x")
        self.assert_value({"a": 1, "b": 2}, "let x = {a: 1} in (let x = {b: 2} in x) | x")
        self.assert_value(1, "let p = p.a in p", {"a": 1})

    def test_calls(self):
        self.assert_value({"a": 1, "b": 2}, "def g(q, p) = {a: q, b: p}\ndef f(p, q) = g(p, q)", 1, 2)
        self.assert_value(9, "def p() = 9\ndef f(p) = p()", 1)
        self.assert_value({"a": {"a": 1}}, "def g(p) = {a: p}\ndef f(p) = g(g(p))", 1)
        self.assert_value({"x": 1}, "def g(x) = let x = {x: x} in x\ndef f(p) = let x = p in g(x)", 1)

    def test_values_that_were_returned_are_passed_on(self):
        program = Program.read("def f(p) = {a: {a: {a: {a: {a: {a: {a: {a: {a: {a: p}}}}}}}}}}\ndef g(p) = {a: p, b: p}")
        value = 1
        for name in "fgf":
            value = run(program, name, value)
        self.assertEqual(len(list(value.paths())), value.size)
        self.assertEqual(run(program, "g", value)["b"], value)


class TestTests(RunCase):

    def test_has(self):
        self.assert_value(1, "if p has a then 1 else 2", {"a": 0})
        self.assert_value(2, "if p has a then 1 else 2", {"b": 0})
        self.assert_value(2, "if p.b | {} has a then 1 else 2", {"b": {}})

    def test_is_record(self):
        for value, expected in ((0, 2), ({}, 1), ({"a": 1}, 1)):
            self.assert_value(expected, "if p is record then 1 else 2", value)
        self.assert_value(2, "if 5 is record then 1 else 2")
        self.assert_value(1, "if {} is record then 1 else 2")

    def test_not(self):
        for count in range(5):
            words = "not " * count
            self.assert_value(1 + count % 2, f"if {words}p has a then 1 else 2", {"a": 1})
            self.assert_value(2 - count % 2, f"if {words}p is record then 1 else 2", 7)

    def test_tests_are_evaluated_until_one_does_not_hold(self):
        body = "if p is record and p has a and p.a is record and p.a has b then 1 else 2"
        for value, expected in ((0, 2), ({}, 2), ({"a": 1}, 2), ({"a": {}}, 2), ({"a": {"b": 1}}, 1)):
            self.assert_value(expected, body, value)
        body = "if p is record and p has a and q !has a then 1 else 2"
        self.assert_fails("record", "has", None, body, {"a": 1}, 0)
        self.assert_value(2, body.replace("!", ""), {}, 0)

    def test_only_one_branch_is_evaluated(self):
        self.assert_value(1, "if p has a then 1 else p.a", {"a": 1})
        self.assert_fails("lacks", ".", "a", "if p has a then 1 else p!.a", {})

    def test_branches_of_nested_ifs(self):
        body = "if p has a then if p has b then 1 else 2 else if p has b then 3 else 4"
        for names, expected in (("ab", 1), ("a", 2), ("b", 3), ("", 4)):
            self.assert_value(expected, body, dict.fromkeys(names, 0))


class TestFailures(RunCase):

    def test_record(self):
        self.assert_fails("record", ".", None, "p!.a", 3)
        for change in ("put a = 1", "add a = 1", "cut a", "drop a", "rename a to b", "only a", "only"):
            self.assert_fails("record", change[:3], None, f"p[!{change}]", -3)
            self.assert_fails("record", change[:3], None, f"p[put a = 1][drop a].b[!{change}]", {"b": 4})
        self.assert_fails("record", "has", None, "if p !has a then 1 else 2", 3)
        self.assert_fails("record", "has", None, "if not not 3 !has a then 1 else 2")
        for sign in "|+-&":
            self.assert_fails("record", sign, None, f"p !{sign} q", 1, {})
            self.assert_fails("record", sign, None, f"p !{sign} q", {}, 1)
            self.assert_fails("record", sign, None, f"p !{sign} q", 1, 2)

    def test_lacks(self):
        self.assert_fails("lacks", ".", "a", "p!.a", {"b": 1})
        self.assert_fails("lacks", "cut", "a", "p[!cut a]", {"b": 1})
        self.assert_fails("lacks", "rename", "a", "p[!rename a to b]", {"b": 1})
        self.assert_fails("lacks", "rename", "a", "p[!rename a to a]", {"b": 1})
        self.assert_fails("lacks", ".", "b", "p.a!.b.c", {"a": {"c": 1}})
        self.assert_fails("lacks", "cut", "a", "p[drop a, !cut a]", {"a": 1})
        self.assert_fails("lacks", ".", "a", "p[rename a to b]!.a", {"a": 1})
        self.assert_fails("lacks", ".", "b", "p[only a]!.b", {"b": 1})

    def test_there(self):
        self.assert_fails("there", "add", "a", "p[!add a = 1]", {"a": 1})
        self.assert_fails("there", "rename", "b", "p[!rename a to b]", {"a": 1, "b": 2})
        self.assert_fails("there", "add", "a", "p[put a = 1, !add a = 1]", {})

    def test_shared_tells_the_least_mentioned_name(self):
        body = "p !+ q | {m: 1, k: 1}"
        self.assert_fails("shared", "+", "k", body, {"a": 1, "k": 1, "m": 2, "z": 3}, {"a": 5, "k": 3, "m": 1, "z": 1})
        self.assert_fails("shared", "+", "m", body, {"a": 1, "k": 1, "m": 2}, {"a": 1, "m": 2})
        self.assert_fails("shared", "+", None, body, {"a": 1, "k": 1}, {"a": 1, "m": 2})
        self.assert_fails("shared", "+", None, "p !+ p", {"z": 1})
        self.assert_fails("shared", "+", "a", "{a: 1} !+ {a: 1}")

    def test_a_name_that_another_function_mentions_is_mentioned(self):
        text = "def f(p) = p + p\ndef g(p) = p.zz"
        program = Program.read(text)
        self.assertEqual(outcome(program, "f", record({"y": 1, "zz": 1})), ("failure", "shared", 13, (), "zz"))

    def test_calls(self):
        text = "def f(p) = p.a\ndef g(p) = f(p)\ndef h(p) = {b: g(p)}"
        self.assertEqual(self.ended(text, {}), ("failure", "lacks", 12, (text.find("g(p)}"), text.find("f(p)\ndef h")), "a"))
        program = Program.read(text)
        self.assertEqual(outcome(program, "g", record({})), ("failure", "lacks", 12, (text.find("f(p)\ndef h"),), "a"))
        self.assertEqual(outcome(program, "f", record({})), ("failure", "lacks", 12, (), "a"))

    def test_arguments_of_a_call_are_not_within_it(self):
        text = "def f(p) = p\ndef g(p) = f(p.a)"
        self.assertEqual(self.ended(text, {}), ("failure", "lacks", text.find("."), (), "a"))
        text = "def f(p) = p.a\ndef g(p) = f(f(p))"
        inner = text.find("f(p))")
        self.assertEqual(self.ended(text, {}), ("failure", "lacks", 12, (inner,), "a"))
        self.assertEqual(self.ended(text, {"a": {}}), ("failure", "lacks", 12, (inner - 2,), "a"))
        self.assertEqual(self.ended(text, {"a": 1}), ("failure", "record", 12, (inner - 2,), None))

    def test_calls_that_have_ended_are_not_told(self):
        text = "def f(p) = p\ndef g(p) = f(p).a"
        self.assertEqual(self.ended(text, {}), ("failure", "lacks", text.find("."), (), "a"))


class TestOrder(RunCase):

    def test_literals_and_calls_from_the_left(self):
        self.assert_fails("lacks", ".", "a", "{y: p!.a, x: p.b}", {})
        self.assert_fails("lacks", ".", "b", "{y: p.a, x: p!.b}", {"a": 1})
        text = "def f(p, q) = p\ndef g(p) = f(p.a, p.b)"
        self.assertEqual(self.ended(text, {}), ("failure", "lacks", text.find(".a"), (), "a"))
        self.assertEqual(self.ended(text, {"a": 1}), ("failure", "lacks", text.find(".b"), (), "b"))

    def test_arguments_and_lets_are_evaluated_also_if_they_are_not_used(self):
        text = "def f(p) = 1\ndef g(p) = f(p.a)"
        self.assertEqual(self.ended(text, {}), ("failure", "lacks", text.find(".a"), (), "a"))
        self.assert_fails("lacks", ".", "a", "let x = p!.a in 1", {})
        self.assert_fails("lacks", ".", "a", "let x = p!.a in p.b", {})

    def test_lets_are_evaluated_where_they_stand(self):
        self.assert_fails("lacks", ".", "b", "p!.b | (let x = p.a in x)", {})
        self.assert_fails("lacks", ".", "a", "let x = p!.a in {b: p.b, x: x}", {})

    def test_arguments_before_the_body(self):
        text = "def f(p, q) = p.a\ndef g(p) = f(p, p.b)"
        self.assertEqual(self.ended(text, {}), ("failure", "lacks", text.find(".b"), (), "b"))

    def test_joins_evaluate_both_sides_and_then_look_at_them(self):
        for sign in "|+-&":
            self.assert_fails("lacks", ".", "a", f"3 {sign} p!.a", {})
            self.assert_fails("record", sign, None, f"3 !{sign} p.a", {"a": 1})
            self.assert_fails("lacks", ".", "a", f"p!.a {sign} p.b", {})
            self.assert_fails("record", sign, None, f"p !{sign} 3 {sign} q.a", {}, {})

    def test_put_and_add(self):
        self.assert_fails("record", "put", None, "p[!put a = q.b]", 1, {})
        self.assert_fails("lacks", ".", "b", "p[put a = q!.b]", {}, {})
        self.assert_fails("record", "add", None, "p[!add a = q.b]", 1, {})
        self.assert_fails("there", "add", "a", "p[!add a = q.b]", {"a": 1}, {})
        self.assert_fails("lacks", ".", "b", "p[add a = q!.b]", {}, {})

    def test_rename(self):
        self.assert_fails("lacks", "rename", "a", "p[!rename a to b]", {"b": 1})
        self.assert_fails("lacks", ".", "c", "p!.c[rename a to b]", {})

    def test_a_test_evaluates_its_chain_first(self):
        self.assert_fails("lacks", ".", "b", "if p!.b has a then 1 else 2", {})
        self.assert_fails("lacks", ".", "b", "if p!.b is record then 1 else 2", {})


class TestAgainstTheModel(unittest.TestCase):

    def test_programs_by_chance(self):
        chance = random.Random(11)
        seen = {}
        for _ in range(700):
            text = samples.definitions(chance, 20)
            try:
                program = Program.read(text)
            except errors.TooLarge:
                continue
            runner = model.Runner(model.parse(text))
            for name in program.names:
                for _ in range(12):
                    arguments = tuple(any_value(chance, 3) for _ in program.parameters(name))
                    expected = runner.run(name, arguments)
                    told = outcome(program, name, *record(arguments))
                    seen[told[:2] if told[0] == "failure" else told[0]] = True
                    self.assertEqual((*told[:-1], plain(told[-1])), expected, (text, name, arguments))
        kinds = {("failure", kind) for kind in ("record", "lacks", "there", "shared")}
        self.assertEqual(set(seen), kinds | {"value"})


def any_value(chance, deepest):
    if deepest == 0 or chance.random() < 0.15:
        return chance.choice([0, -4, 10 ** 30 - 1])
    return {name: any_value(chance, deepest - 1) for name in ("a", "b", "other") if chance.random() < 0.5}


if __name__ == "__main__":
    unittest.main()
