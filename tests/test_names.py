"""Functions, variables and fields: point 9."""

import unittest

from growingrecords.errors import BadText, DoubleName, TooLarge, UnknownName, WrongCount
from growingrecords.programs import Program


class TestNames(unittest.TestCase):

    def assert_wrong(self, kind, name, text):
        """The sign # stands before the name that is told."""
        with self.subTest(text), self.assertRaises(kind) as caught:
            Program.read(text.replace("#", ""))
        self.assertEqual((caught.exception.name, caught.exception.at), (name, text.index("#")), text)

    def assert_goes(self, text):
        """The text is read, or only one of its functions is heavy."""
        try:
            Program.read(text)
        except TooLarge:
            pass

    def test_double_functions(self):
        self.assert_wrong(DoubleName, "f", "def f() = 1 def #f() = 2")
        self.assert_wrong(DoubleName, "f", "def f() = 1 def g() = 2 def #f(p) = p def f() = 1")
        self.assert_wrong(DoubleName, "g", "def f() = 1 def g() = 2 def #g(p) = p def f() = 1")

    def test_double_parameters(self):
        self.assert_wrong(DoubleName, "p", "def f(p, #p) = 1")
        self.assert_wrong(DoubleName, "q", "def f(p, q, r, #q) = p")
        self.assert_wrong(DoubleName, "p", "def f(p, q) = p def g(p, q, #p, q) = p")
        self.assertEqual(Program.read("def f(p) = p def g(p) = p").names, ("f", "g"))

    def test_double_fields(self):
        self.assert_wrong(DoubleName, "a", "def f() = {a: 1, #a: 1}")
        self.assert_wrong(DoubleName, "b", "def f() = {a: 1, b: {a: 1}, c: 1, #b: 1, a: 1}")
        self.assert_wrong(DoubleName, "a", "def f() = {b: {a: 1, #a: 2}, b: 1}")
        self.assert_wrong(DoubleName, "b", "def f() = {b: {a: 1}, #b: {a: 1, a: 2}}")
        self.assertEqual(Program.read("def f() = {a: {a: {a: 1}}, b: {a: 1}}").mentioned, ("a", "b"))

    def test_names_that_may_stand_twice(self):
        Program.read("def f(p) = p[only a a a, put a = 1, put a = 2, cut a, add a = 1, rename a to a]")

    def test_unknown_variables(self):
        self.assert_wrong(UnknownName, "p", "def f() = #p")
        self.assert_wrong(UnknownName, "f", "def f() = #f")
        self.assert_wrong(UnknownName, "q", "def g(q) = q def f(p) = p | #q")
        self.assert_wrong(UnknownName, "a", "def f(p) = p[put a = #a]")
        self.assert_wrong(UnknownName, "a", "def f(p) = {a: 1, b: #a}")
        self.assert_wrong(UnknownName, "x", "def f(p) = (let x = 1 in x) | #x")
        self.assert_wrong(UnknownName, "x", "def f(p) = let x = #x in x")
        self.assert_wrong(UnknownName, "x", "def g(p) = let x = p in x def f(p) = #x")
        self.assert_wrong(UnknownName, "y", "def f(p) = let x = let y = p in y in #y")
        self.assert_wrong(UnknownName, "x", "def f(p) = if p has a then let x = 1 in x else #x")
        self.assert_wrong(UnknownName, "x", "def f(p) = if (let x = p in x) has a then #x else 1")

    def test_unknown_functions(self):
        self.assert_wrong(UnknownName, "g", "def f(p) = #g(p)")
        self.assert_wrong(UnknownName, "f", "def f(p) = #f(p)")
        self.assert_wrong(UnknownName, "g", "def f(p) = #g(p) def g(p) = p")
        self.assert_wrong(UnknownName, "p", "def f(p) = #p(p)")
        self.assert_wrong(UnknownName, "x", "def f(p) = let x = p in #x()")

    def test_wrong_counts(self):
        before = "def g() = 1 def h(p, q) = p def f(p) = "
        for call in ("#g(1)", "#g(p, p)", "#h()", "#h(p)", "#h(p, p, p)", "h(h(p, p), #h(g(), g(), g()))", "h(#g(1), 1)"):
            name = call[call.index("#") + 1]
            self.assert_wrong(WrongCount, name, before + call)
        self.assertEqual(Program.read(before + "h(h(g(), p), g())").written().count("\n"), 2)

    def test_the_first_position_is_told(self):
        self.assert_wrong(WrongCount, "g", "def g() = 1 def f(p) = #g(x, g(2), {a: 1, a: 2})")
        self.assert_wrong(UnknownName, "h", "def g() = 1 def f(p) = #h(x, g(2))")
        self.assert_wrong(UnknownName, "x", "def g() = 1 def f(p) = g().a | #x | g(2)")
        self.assert_wrong(DoubleName, "p", "def f(p, #p) = x def f() = g()")
        self.assert_wrong(UnknownName, "x", "def f(p) = #x def f(q, q) = {a: 1, a: 2}")
        self.assert_wrong(DoubleName, "f", "def f(p) = p def #f(q, q) = f(1, 2)")
        self.assert_wrong(DoubleName, "a", "def f(p) = {a: 1, #a: x}")
        self.assert_wrong(UnknownName, "x", "def f(p) = {a: #x, a: 1}")
        self.assert_wrong(WrongCount, "f", "def f(p) = p def g(p) = #f() def f() = 1")

    def test_a_wrong_text_goes_first(self):
        text = "def f(p, p) = x | g() | {a: 1, a: 1} def f() = )"
        with self.assertRaises(BadText) as caught:
            Program.read(text)
        self.assertEqual(caught.exception.at, len(text) - 1)

    def test_a_let_hides(self):
        program = Program.read("def f(p, x) = let x = {a: x} in (let x = x.a in x) | x[put a = let p = x in p] | p")
        definitions = [(node.name, node.definition) for node in program.function("f").nodes if node.__class__.__name__ == "Variable"]
        places = [place for _, place in definitions]
        # The x in the outer definition is the parameter, in the inner one the outer x, then the inner one, twice the outer one.
        self.assertEqual([name for name, _ in definitions], ["x", "x", "x", "x", "x", "p", "p"])
        self.assertEqual(places[0], 1)
        self.assertEqual(places[1], places[3])
        self.assertEqual(places[3], places[4])
        self.assertEqual(len({places[0], places[1], places[2], places[5], places[6]}), 5)
        self.assertEqual(places[6], 0)

    def test_a_hidden_name_is_weighed_by_its_own_definition(self):
        heavy = " | ".join(["p"] * 30)
        self.assertEqual(Program.read(f"def f(p) = let x = {heavy} in let x = 1 in x | x").names, ("f",))
        with self.assertRaises(TooLarge):
            Program.read(f"def f(p) = let x = {heavy} in let y = 1 in x | x")
        with self.assertRaises(TooLarge):
            Program.read(f"def f(p) = let x = {heavy} in (let x = 1 in x) | x")

    def test_functions_and_variables_are_apart(self):
        program = Program.read("def f(f) = f def g(f) = let g = f(f) in f(g)")
        self.assertEqual(program.written(), "def f(f) = f\ndef g(f) = let g = f(f) in f(g)")
        self.assertEqual(Program.read("def a(a) = a.a[put a = a]").mentioned, ("a",))

    def test_long_rows(self):
        body = {
            "chain": "p" + "+p" * 1980,
            "steps": "p" + ".a" * 1980,
            "changes": "p[cut a" + ",cut a" * 650 + "]",
            "brackets": "p" + "[cut a]" * 560,
            "tests": "if p has a" + " and p has a" * 325 + " then p else p",
            "nots": "if " + "not " * 980 + "p has a then p else p",
            "only": "p[only" + " a" * 1980 + "]",
            "arguments": "g(" + "p," * 1980 + "p)",
            "fields": "{a:1" + ",b:1" * 980 + "}",
            "blanks": " " * 3900 + "p",
            "line feeds": "\n" * 3900 + "p",
        }
        for kind, text in body.items():
            with self.subTest(kind):
                whole = "def g(p) = p def f(p) = " + text
                self.assertLessEqual(len(whole), 4000)
                if kind == "arguments":
                    self.assert_wrong(WrongCount, "g", whole.replace("= g", "= #g"))
                elif kind == "fields":
                    self.assert_wrong(DoubleName, "b", whole.replace(",b:1,b", ",b:1,#b", 1))
                else:
                    self.assert_goes(whole)
        for kind in ("nots", "blanks", "line feeds"):
            self.assertEqual(Program.read("def f(p) = " + body[kind]).names, ("f",))

    def test_the_end_of_long_rows_is_looked_at(self):
        for row in ("p" + " | p" * 900, "p" + ".a" * 1800, "if p has a" + " and p has a" * 300 + " then p else p", "(" * 99 + "p" + ")" * 99):
            text = "def f(p) = " + row + " | "
            self.assert_wrong(UnknownName, "x", text + "#x")

    def test_many_parameters(self):
        self.assert_wrong(DoubleName, "c", "def f(a, b, c, d, e, #c) = a")


if __name__ == "__main__":
    unittest.main()
