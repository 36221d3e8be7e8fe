"""The weight of functions: point 10."""

import unittest

from growingrecords.errors import TooLarge, UnknownName
from growingrecords.programs import Program


def chain(weight):
    """A chain of this odd weight."""
    return " | ".join(["p"] * ((weight + 1) // 2))


class TestWeights(unittest.TestCase):

    def assert_fits(self, body, before=""):
        with self.subTest(body):
            self.assertEqual(Program.read(f"{before} def f(p, q) = {body}").names[-1], "f")

    def assert_heavy(self, body, before="", name="f"):
        with self.subTest(body), self.assertRaises(TooLarge) as caught:
            Program.read(f"{before} def f(p, q) = {body}")
        self.assertEqual(caught.exception.name, name)

    def assert_weights(self, before, rows):
        """With so many steps more each body is just light enough, with one more it is not."""
        for weight, body in rows:
            self.assert_fits(f"({body}){'.a' * (80 - weight)}", before)
            self.assert_heavy(f"({body}){'.a' * (81 - weight)}", before)

    def test_bases_and_chains(self):
        self.assert_weights("", [
            (1, "0"), (1, "p"), (1, "(((p)))"), (1, "{}"), (2, "{a: 1}"), (5, "{a: 1, b: {c: p, d: {}}}"),
            (3, "p | q"), (7, "p | q - 1 & {}"), (7, "p | (q - (1 & {}))"), (5, "p + p + p"),
        ])

    def test_steps(self):
        self.assert_weights("", [
            (2, "p.a"), (4, "p.a.b.c"), (2, "p[cut a]"), (2, "p[drop a]"), (3, "p[cut a, drop b]"), (2, "p[only]"),
            (4, "p[only a b]"), (5, "p[only a a a]"), (3, "p[put a = 1]"), (3, "p[add a = q]"), (5, "p[put a = q | 1]"),
            (5, "p[put a = {b: q.c}]"), (5, "p[put a = 1][add a = 1]"), (4, "(p | q).a"),
        ])

    def test_rename_weighs_all_before_it_once_more(self):
        self.assert_weights("", [
            (5, "p[rename a to b]"), (5, "p[rename a to a]"), (13, "p[rename a to b, rename a to b]"),
            (13, "p[rename a to b][rename a to b]"), (13, "(p[rename a to b])[rename a to b]"),
            (9, "p[put a = 1, rename a to b]"), (7, "p[rename a to b, put a = 1]"), (9, "(p | q)[rename a to b]"),
            (7, "p | q[rename a to b]"), (7, "p.a[rename a to b]"), (6, "p[rename a to b].c"),
            (13, "{a: {b: p.a}, c: 1}[rename a to b]"), (9, "(let x = 1 in x)[rename a to b]"),
        ])

    def test_let(self):
        self.assert_weights("", [
            (3, "let x = 1 in 2"), (3, "let x = 1 in x"), (5, "let x = p | q in 1"), (7, "let x = p | q in x"),
            (11, "let x = p | q in x | x"), (1 + 3 + 1 + 7 + 7, "let x = p | q in let y = x | x in y"),
            (1 + 1 + 1 + 2 + 2, "let x = p in let x = x.a in x"),
        ])

    def test_if(self):
        self.assert_weights("", [
            (5, "if p has a then 1 else 2"), (5, "if not not not p is record then 1 else 2"),
            (1 + 2 + 4 + 2 + 3 + 1, "if p has a and p.a.b is record and not p has b then p | q else q"),
            (1 + 4 + 2 + 2 + 1, "if p | q has a and p is record then {a: 1} else q"),
            (5, "if " + "not " * 200 + "(" * 90 + "p" + ")" * 90 + " has a then 1 else 2"),
        ])

    def test_calls(self):
        self.assert_weights("def e() = 1 def g(p) = p def h(p, q) = p | p | q def k(p, q) = g(q)", [
            (1 + 1, "e()"), (1 + 1 + 1, "g(p)"), (1 + 3 + 3, "g(p | q)"), (1 + 1 + 1 + 5, "h(p, q)"),
            (1 + 3 + 1 + 9, "h(p | q, 1)"), (1 + 1 + 3 + 7, "h(1, p | q)"), (1 + 3 + 1 + 3, "k(p | q, 1)"),
            (1 + 1 + 3 + 7, "k(1, p | q)"), (15, "g(g(g(p)))"), (1 + 7 + 7, "let x = g(p | q) in x"),
        ])

    def test_80_and_81_by_each_construct(self):
        for at_80, at_81 in (
                (f"({chain(79)}).a", chain(81)),
                ("p" + ".a" * 79, "p" + ".a" * 80),
                ("p" + "[cut a]" * 79, "p" + "[cut a]" * 80),
                ("p" + "[drop a]" * 79, "p" + "[drop a]" * 80),
                ("p" + "[only]" * 79, "p" + "[only]" * 80),
                ("p[only" + " a" * 78 + "]", "p[only" + " a" * 79 + "]"),
                ("p.a" + "[put a = 1]" * 39, "p" + "[put a = 1]" * 40),
                ("p.a" + "[add a = 1]" * 39, "p" + "[add a = 1]" * 40),
                (f"p[put a = {chain(77)}, cut a]", f"p[put a = {chain(79)}]"),
                (f"p{'.a' * 37}[rename a to b].a", f"p{'.a' * 38}[rename a to b]"),
                (f"{{a: {chain(77)}, b: {{c: 1}}}}", f"{{a: {chain(79)}, b: 1}}"),
                (f"let x = {chain(77)} in {{}}.a", f"let x = {chain(79)} in 1"),
                (f"let x = {chain(39)} in x.a", f"let x = {chain(39)} in x.a.a"),
                (f"if p has a then {chain(75)} else {{}}.a", f"if p has a then 1 else {chain(77)}"),
                (f"if {chain(75)} has a then 1 else 1.a", f"if {chain(77)} is record then 1 else 1"),
                (f"if p has a{' and p has a' * 37} then {{a: 1}} else 1", f"if p has a{' and p has a' * 38} then 1 else 1")):
            self.assert_fits(at_80)
            self.assert_heavy(at_81)

    def test_80_and_81_by_calls(self):
        before = f"def e() = 1{'.a' * 40} def g(p) = p.a"
        self.assert_fits(f"e(){'.a' * 38}", before)
        self.assert_heavy(f"e(){'.a' * 39}", before)
        self.assert_fits(f"g(p{'.a' * 38})", before)
        self.assert_heavy(f"g(p{'.a' * 38}).a", before)

    def test_an_argument_that_is_not_used(self):
        before = "def one(p) = 1"
        self.assert_fits(f"one({chain(77)}).a", before)
        self.assert_heavy(f"one({chain(79)})", before)

    def test_a_function_is_weighed_with_parameters_of_weight_1(self):
        before = f"def g(p) = p{'.a' * 79}"
        self.assertEqual(Program.read(before).names, ("g",))
        self.assert_heavy("g(p)", before)
        self.assert_fits("1", before)

    def test_chains_of_doublings_are_answered_at_once(self):
        self.assert_heavy("let p = p | p in " * 90 + "p")
        self.assert_heavy("p[rename a to b" + ", rename a to b" * 260 + "]")
        self.assert_heavy("g(" * 99 + "p" + ")" * 99, "def g(p) = p | p")
        self.assert_heavy(" | ".join(["g(" * 90 + "p" + ")" * 90] * 9), "def g(p) = p | p | p | p")

    def test_chains_of_doubling_functions_are_answered_at_once(self):
        names = "abcdeghijklmno"
        text = "def a(p) = p | p"
        for old, new in zip(names, names[1:]):
            text += f" def {new}(p) = {old}({old}({old}(p)))"
        self.assert_heavy("o(p)", text, "c")
        text = "def a(p) = p | p"
        for old, new in zip(names, names[1:]):
            text += f" def {new}(p) = {(old + '(') * 90}p{')' * 90}"
        self.assert_heavy("o(p)", text, "b")

    def test_the_first_heavy_function_is_told(self):
        light, heavy = "p", chain(81)
        for bodies, name in (((light, heavy, light, heavy), "g"), ((heavy, heavy, light, light), "e"), ((light, light, light, heavy), "k")):
            before = " ".join(f"def {one}(p) = {body}" for one, body in zip("eghk", bodies))
            self.assert_heavy(chain(83), before, name)

    def test_wrong_names_go_first(self):
        text = f"def f(p) = {chain(81)} def g(p) = x"
        with self.assertRaises(UnknownName) as caught:
            Program.read(text)
        self.assertEqual(caught.exception.at, len(text) - 1)


if __name__ == "__main__":
    unittest.main()
