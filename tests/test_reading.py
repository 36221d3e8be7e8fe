"""How programs are written: points 6 and 7, and the positions that are kept."""

import unittest

from growingrecords.errors import BadText, UnknownFunction
from growingrecords.nodes import Call, Choice, Join, Literal, Number, Step, Variable
from growingrecords.programs import Program
from tests import oracle


class TestRight(unittest.TestCase):

    def test_each_construct(self):
        for body in ("0", "p", "{}", "{a: 1}", "{a: p, b: {c: q}}", "(p)", "((1))", "g()", "h(p, q)", "h(let x = 1 in x, 2)",
                     "let x = p in x", "let x = let y = 1 in y in x", "if p has a then 1 else 2", "if p is record then p else q",
                     "if not not not p.a has b and p | q is record and not 1 is record then 1 else if p has a then 2 else 3",
                     "p | q", "p + q - {} & p | q", "p.a", "p.a.b[cut a].c", "1.a", "{}.a", "h(p, q).a", "(p | q).a",
                     "p[put a = 1]", "p[add a = let x = 1 in x, cut b, drop c, rename d to d, only, only a, only a b a]",
                     "p[cut a][cut b]", "p[put a = p[put b = 1]]", "(if p has a then p else q)[only]", "p | (q | p)"):
            with self.subTest(body):
                text = "def g() = 1 def h(p, q) = 1 def f(p, q) = " + body
                self.assertIsNone(oracle.first_wrong(text))
                self.assertEqual(Program.read(text).names, ("g", "h", "f"))

    def test_names_and_parameters(self):
        program = Program.read("def f() = 1 def abcdefgh(p, q, r, s) = p def a(a) = a")
        self.assertEqual(program.names, ("f", "abcdefgh", "a"))
        self.assertEqual([program.parameters(name) for name in program.names], [(), ("p", "q", "r", "s"), ("a",)])
        self.assertEqual(program.parameters(name="a"), ("a",))
        self.assertEqual(Program.read(text="def f() = 1").names, ("f",))

    def test_unknown_function(self):
        for name in ("g", "p", "", "F", "ff"):
            with self.assertRaises(UnknownFunction) as caught:
                Program.read("def f(p) = p").parameters(name)
            self.assertEqual(caught.exception.name, name)

    def test_mentioned(self):
        text = """def f(p, x) = let y = p[put ba = 1, add bb = 1, cut bc, drop bd, rename be to bf, only bg bh]
            in if x has bi then {aa: 1, z: x.zz} else p.ba"""
        self.assertEqual(Program.read(text).mentioned,
                         ("aa", "ba", "bb", "bc", "bd", "be", "bf", "bg", "bh", "bi", "z", "zz"))
        self.assertEqual(Program.read("def f(p) = p def g(q) = let x = 1 in f(x)").mentioned, ())

    def test_blanks_and_line_feeds_anywhere(self):
        words = "def f ( p , q ) = if not p . a [ put b = { c : 1 , d : 2 } ] has c then 2 else ( p | q )".split()
        expected = "def f(p, q) = if not p.a[put b = {c: 1, d: 2}] has c then 2 else p | q"
        for blank in (" ", "\n", "  \n\n ", "\n" * 20):
            self.assertEqual(Program.read(blank.join(["", *words, ""])).written(), expected)
        self.assertEqual(Program.read("def f(p,q)=if not p.a[put b={c:1,d:2}]has c then 2else(p|q)").written(), expected)

    def test_tokens_are_as_long_as_possible(self):
        self.assertEqual(Program.read("def f(inp)=let lets=inp in if inp has a then 1else 2").names, ("f",))
        self.assertEqual(Program.read("def f()=12def g()=0").written(), "def f() = 12\ndef g() = 0")
        with self.assertRaises(BadText) as caught:
            Program.read("def f() = letx = 1 in x")
        self.assertEqual(caught.exception.at, 15)

    def test_numbers(self):
        self.assertEqual(Program.read(f"def f() = {10 ** 30 - 1}").written(), f"def f() = {10 ** 30 - 1}")
        self.assertEqual(Program.read("def f() = 0").written(), "def f() = 0")

    def test_somewhat_beyond_the_limits(self):
        many = "\n".join(f"def f{letter}(a, b, c, d, e, g) = a.{letter * 2}" for letter in "abcdefghijklmnopqrstuvwxyz")
        self.assertEqual(len(Program.read(many).mentioned), 26)
        self.assertEqual(Program.read("def f() = 1" + " " * 5000).names, ("f",))

    def test_class_values_and_methods(self):
        self.assertEqual((Program.HEAVIEST, Program.DEEPEST), (80, 100))
        for name in ("HEAVIEST", "DEEPEST", "read", "parameters", "written"):
            self.assertIn(name, vars(Program))
        program = Program.read("def f() = 1")
        self.assertIn("names", vars(program))
        self.assertIn("mentioned", vars(program))

    def test_two_programs_are_apart(self):
        one, two = Program.read("def f(p) = p.a"), Program.read("def g(q) = q.b")
        self.assertEqual((one.names, one.mentioned, two.names, two.mentioned), (("f",), ("a",), ("g",), ("b",)))


class TestWrong(unittest.TestCase):

    def assert_bad(self, text, at):
        with self.subTest(text), self.assertRaises(BadText) as caught:
            Program.read(text)
        self.assertEqual(caught.exception.at, at, text)
        self.assertEqual(oracle.first_wrong(text), at, text)

    def assert_bad_body(self, body):
        """The sign # stands before the token that is wrong."""
        text = "def f(p) = " + body
        self.assert_bad(text.replace("#", ""), text.index("#"))

    def test_text_that_ends_too_early(self):
        self.assert_bad("", 0)
        self.assert_bad(" \n ", 3)
        whole = "def f ( p , q ) = let x = p . a in if not x [ put a = g ( ) , rename a to b ] has a then { a : 1 } else ( p"
        for count in range(1, len(whole.split()) + 1):
            words = whole.split()[:count]
            text = " ".join(words) + " \n"
            if oracle.first_wrong(text) is not None:
                self.assert_bad(text, len(text))
        self.assert_bad(whole, len(whole))

    def test_definitions(self):
        self.assert_bad("p", 0)
        self.assert_bad("let x = 1 in x", 0)
        self.assert_bad("def f() = 1 1", 12)
        self.assert_bad("def f() = 1 g() = 1", 12)
        self.assert_bad("def f() = 1, def g() = 1", 11)
        self.assert_bad("def (p) = 1", 4)
        self.assert_bad("def 1() = 1", 4)
        self.assert_bad("def f = 1", 6)
        self.assert_bad("def f(,) = 1", 6)
        self.assert_bad("def f(p,) = 1", 8)
        self.assert_bad("def f(p q) = 1", 8)
        self.assert_bad("def f(1) = 1", 6)
        self.assert_bad("def f((p)) = 1", 6)
        self.assert_bad("def f() 1", 8)
        self.assert_bad("def f() = = 1", 10)
        self.assert_bad("def f() = def g() = 1", 10)

    def test_expressions(self):
        for body in ("#)", "(p#", "(p#]", "(#)", "p #p", "p #1", "1 #p", "1#(p)", "p#:", "{}#{}", "p.a#(p)", "(p)#(p)",
                     "let #1 = p in p", "let x #in p", "let x #p", "let x = p#", "let x = p #then p", "let x = #in x",
                     "let x = p in #", "let x#.a = p in p", "p | #let x = 1 in x", "p | #if p has a then 1 else 2",
                     "let x = p in x #in x"):
            self.assert_bad_body(body)

    def test_tests(self):
        for body in ("if #then 1 else 2", "if p #then 1 else 2", "if p has a #b", "if p has #1 then 1 else 2",
                     "if p has #then 1 else 2", "if p is #a then 1 else 2", "if p is #not record then 1 else 2",
                     "if p is record #else 1", "if p has a then 1 #then 2", "if p has a then 1#", "if p has a then 1 #and p has a",
                     "if p has a and #then 1 else 2", "if #and p has a then 1 else 2", "if (p #has a) then 1 else 2",
                     "if not (p #has a) then 1 else 2", "if not #if p has a then 1 else 2", "if #let x = 1 in x has a then 1 else 2",
                     "if p has a #has b", "p #has a", "p #is record", "#not p", "if p has #(a)",
                     "if p #and"):
            self.assert_bad_body(body)

    def test_chains_and_steps(self):
        for body in ("#| p", "p |#", "p | #| p", "p - #- p", "#- 1", "p.#", "p.#1", "p.#.a", "p.#(a)", "p.#[cut a]", "p.#only",
                     "p[#]", "p[#a]", "p[#.a]", "p[cut a#", "p[cut a #cut b]", "p[cut a, #]", "p[#, cut a]", "p[cut #]", "p[cut #1]",
                     "p[cut a #= 1]", "p[drop #, cut a]", "p[put #1 = 1]", "p[put a #]", "p[put a = #]", "p[put a#: 1]", "p[put a = 1 #b]",
                     "p[add a #1]", "p[add a = #, cut a]", "p[rename a #b]", "p[rename a to #]", "p[rename #to b]", "p[rename a to b #to c]",
                     "p[only a#: 1]", "p[only #1]", "p[only a #cut b]", "p[only a b, #c]", "p[cut a]#)", "p[cut a#)", "p.a#:"):
            self.assert_bad_body(body)

    def test_literals_and_calls(self):
        for body in ("{#", "{#1: 1}", "{a#}", "{a #1}", "{a: #}", "{a: 1#", "{a: 1,#", "{a: 1, #}", "{#, a: 1}", "{a: 1 #b: 2}", "{a: 1#)",
                     "{#{}: 1}", "{a#= 1}", "f(#", "f(p#", "f(p,#", "f(p, #)", "f(#, p)", "f(p #p)", "f(p#]", "f()#()", "f(p #has a)"):
            self.assert_bad_body(body)

    def test_reserved_words_are_no_names(self):
        for word in oracle.RESERVED:
            for before, after in (("def ", "(p) = p"), ("def f(", ") = 1"), ("def f(p, ", ") = 1"), ("def f(p) = p.", ""),
                                  ("def f(p) = {", ": 1}"), ("def f(p) = {a: 1, ", ": 1}"), ("def f(p) = p[cut ", "]"),
                                  ("def f(p) = p[put ", " = 1]"), ("def f(p) = p[rename ", " to a]"), ("def f(p) = p[rename a to ", "]"),
                                  ("def f(p) = p[only a ", "]"), ("def f(p) = if p has ", " then 1 else 1"), ("def f(p) = let ", " = 1 in 1"),
                                  ("def f(p) = p | ", "")):
                self.assert_bad(before + word + after, len(before))

    def test_reserved_words_are_no_variables(self):
        for word in oracle.RESERVED:
            if word not in ("let", "if"):
                self.assert_bad("def f(p) = " + word + " | p", 11)

    def test_words_of_more_than_eight_letters(self):
        for before, after in (("def ", "(p) = p"), ("def f(", ") = 1"), ("def f(p) = ", ""), ("def f(p) = p.", ""), ("def f(p) = p[only a ", "]"),
                              ("def f(p) = {", ": 1}"), ("def f(p) = let ", " = 1 in 1")):
            for word in ("abcdefghi", "record" * 2, "a" * 100):
                self.assert_bad(before + word + after, len(before))

    def test_numbers_that_are_none(self):
        for number in ("00", "01", "0123", "1" * 31, "9" * 100, "0" * 31):
            self.assert_bad(f"def f(p) = {number}", 11)
            self.assert_bad(f"def f(p) = p | {number} | p", 15)
            self.assert_bad(f"def f(p) = {{a: {number}}}", 15)

    def test_characters_that_begin_no_token(self):
        for character in "!\"#$'*/;<>?@\\^_`~AZ\t":
            self.assert_bad(character, 0)
            self.assert_bad("def f(p) = " + character, 11)
            self.assert_bad("def f(p) = p" + character, 12)
            self.assert_bad("def f(p) = p " + character + character, 13)
            self.assert_bad("def f(p) = p.a" + character + "b", 14)

    def test_an_earlier_token_goes_first(self):
        self.assert_bad("def f(p) = p p ;", 13)
        self.assert_bad("def f(p) = ) abcdefghi 00", 11)
        self.assert_bad("def f(p) = 1 def f(p) = x def 1", 30)


class TestPositions(unittest.TestCase):

    TEXT = """def g(p) = p def f(p) = let x = g ( p . a ) in
        if not x[put a = {b : 1}, add b = 2] has a and p is record then p[cut a, drop b, rename c to d]
        else p - x & (if p has a then p[only] + {} else 77 | g(g(1)))"""

    def words(self, kind, told):
        nodes = Program.read(self.TEXT).function("f").nodes
        return sorted((node.at, told(node)) for node in nodes if isinstance(node, kind))

    def test_positions_of_nodes(self):
        found = {
            Step: lambda node: node.word, Join: lambda node: node.sign, Literal: lambda node: "{", Number: lambda node: str(node.value),
            Call: lambda node: node.name, Variable: lambda node: node.name, Choice: lambda node: "if",
        }
        counts = []
        for kind, told in found.items():
            rows = self.words(kind, told)
            counts.append(len(rows))
            self.assertEqual(len({at for at, _ in rows}), len(rows))
            for at, word in rows:
                self.assertTrue(self.TEXT.startswith(word, at), (kind, at))
        self.assertEqual(counts, [7, 4, 2, 4, 3, 8, 2])

    def test_positions_of_tests(self):
        nodes = Program.read(self.TEXT).function("f").nodes
        tests = [(test.at, test.word) for node in nodes if isinstance(node, Choice) for test in node.tests]
        self.assertEqual([word for _, word in sorted(tests)], ["has", "is", "has"])
        for at, word in tests:
            self.assertTrue(self.TEXT.startswith(word, at))


if __name__ == "__main__":
    unittest.main()
