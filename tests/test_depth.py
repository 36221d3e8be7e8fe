"""Levels of nesting: point 8."""

import unittest

from growingrecords.errors import BadText, TooDeep, TooLarge
from growingrecords.programs import Program

HEAD = "def g(p, q) = p def f(p, q) = "

# What stands around an expr on the next level.
AROUND = {
    "let definition": ("let x = ", " in p"),
    "let body": ("let x = p in ", ""),
    "then": ("if p has a then ", " else p"),
    "else": ("if p has a then p else ", ""),
    "test": ("if (", ") has a then p else p"),
    "second test": ("if p has a and not (", ") is record then p else p"),
    "round brackets": ("(", ")"),
    "behind a sign": ("p | (", ")"),
    "base of steps": ("(", ").a[cut b]"),
    "put": ("p[put a = ", "]"),
    "add": ("p[cut a, add a = ", ", cut a].a"),
    "literal": ("{a: ", "}"),
    "second field": ("{a: p, b: ", "}"),
    "argument": ("g(", ", p)"),
    "second argument": ("g(p, ", ")"),
}


# Where another expr of this level stands before it.
EARLIER = {"let body": "let x = ", "else": "if p has a then ", "second field": "{a: ", "second argument": "g("}


def nested(kinds, inner):
    """A function in which these stand around one another and around the inner text."""
    before = "".join(AROUND[kind][0] for kind in kinds)
    after = "".join(AROUND[kind][1] for kind in reversed(kinds))
    return HEAD + before + inner + after


def first_of_level_101(kinds):
    """The position of the first expr that is directly within the hundredth of these."""
    last = EARLIER.get(kinds[99], AROUND[kinds[99]][0])
    return len(HEAD) + sum(len(AROUND[kind][0]) for kind in kinds[:99]) + len(last)


class TestDepth(unittest.TestCase):

    def assert_deep(self, text, at):
        with self.subTest(text), self.assertRaises(TooDeep) as caught:
            Program.read(text)
        self.assertEqual(caught.exception.at, at)

    def assert_bad(self, text, at):
        with self.subTest(text), self.assertRaises(BadText) as caught:
            Program.read(text)
        self.assertEqual(caught.exception.at, at)

    def assert_goes(self, text):
        """The text is read to its end; it may well be heavy."""
        try:
            Program.read(text)
        except TooLarge as error:
            self.assertEqual(error.name, "f")

    def test_levels_100_and_101_of_each_construct(self):
        for kind in AROUND:
            self.assert_goes(nested([kind] * 99, "q"))
            self.assert_deep(nested([kind] * 100, "q"), first_of_level_101([kind] * 100))
            self.assert_deep(nested([kind] * 101, "q"), first_of_level_101([kind] * 101))

    def test_round_brackets_alone_are_not_heavy(self):
        text = "def f(p) = " + "(" * 99 + "p" + ")" * 99
        self.assertEqual(Program.read(text).written(), "def f(p) = p")
        self.assert_deep("def f(p) = " + "(" * 100 + "p" + ")" * 100, 111)

    def test_constructs_mixed(self):
        for start in range(len(AROUND)):
            kinds = (list(AROUND) * 10)[start:]
            self.assert_goes(nested(kinds[:99], "q"))
            self.assert_deep(nested(kinds[:100], "q"), first_of_level_101(kinds))
            self.assert_deep(nested(kinds, "q"), first_of_level_101(kinds))

    def test_a_chain_in_a_test_is_no_expression(self):
        text = HEAD + "(" * 99 + "if p.a | p has a and p has b then {close} else p"
        self.assert_deep(text.replace("{close}", "p"), text.index("{close}"))
        test_only = HEAD + "(" * 98 + "if p.a | p has a and {} | {} is record then p else q" + ")" * 98
        self.assert_goes(test_only)

    def test_rows_do_not_go_deeper(self):
        for body in ("p" + " | p" * 900, "p" + ".a" * 1800, "p" + "[cut a]" * 500, "p[cut a" + ", cut a" * 500 + "]"):
            self.assert_goes(HEAD + body)

    def test_a_level_ends_with_its_expression(self):
        inner = "(" * 90 + "p" + ")" * 90
        self.assert_goes(HEAD + " | ".join([inner] * 10))
        self.assert_goes(HEAD + f"if {inner} has a and {inner} has a then {inner} else {inner}")
        self.assert_goes(HEAD + f"let x = {inner} in {inner}")
        self.assert_goes(HEAD + f"g({inner}, {inner})")
        self.assert_goes(HEAD + f"{{a: {inner}, b: {inner}}}")
        self.assert_goes(HEAD + f"p[put a = {inner}, add b = {inner}]")
        self.assert_goes("def e() = " + "(" * 99 + "1" + ")" * 99 + " " + HEAD + "(" * 99 + "1" + ")" * 99)

    def test_a_call_without_arguments_at_level_100(self):
        text = "def e() = 1 def f(p) = " + "(" * 99
        self.assert_goes(text + "e()" + ")" * 99)
        self.assert_deep(text + "e(1)" + ")" * 99, len(text) + 2)
        self.assert_deep(text + "e(  ;", len(text) + 4)
        self.assert_deep(text + "e(", len(text) + 2)
        self.assert_deep(text + "e(,", len(text) + 2)
        self.assert_bad(text + "e(){", len(text) + 3)

    def test_a_literal_without_fields_at_level_100(self):
        text = "def f(p) = " + "(" * 99
        self.assert_goes(text + "{}" + ")" * 99)
        self.assert_bad(text + "{;", len(text) + 1)
        self.assert_bad(text + "{a;", len(text) + 2)
        self.assert_deep(text + "{a:;", len(text) + 3)
        self.assert_bad(text + "p[put a;", len(text) + 7)
        self.assert_deep(text + "p[put a=]", len(text) + 8)

    def test_an_earlier_wrong_token_goes_first(self):
        self.assert_bad("def f(p) = ) " + "(" * 200, 11)
        self.assert_bad("def f(p) = " + "(" * 50 + "]" + "(" * 100, 61)
        self.assert_bad("def f(p) = " + "(" * 99 + "p" + ")" * 99 + ")" + "(" * 200, 210)
        self.assert_bad("def f(p) = p; def g(p) = " + "(" * 200, 12)

    def test_a_wrong_token_at_the_same_or_a_later_position_goes_behind(self):
        text = "def f(p) = " + "(" * 100
        for wrong in (")", "]", ";", "then", "abcdefghi", "007", "let let", "p p", "def", "A", "not p", ""):
            self.assert_deep(text + wrong, 111)
            self.assert_deep(text + " \n " + wrong, 114)
        self.assert_deep(text + "p" + ")" * 99, 111)

    def test_the_end_of_the_text(self):
        self.assert_deep("def f(p) = " + "(" * 100, 111)
        self.assert_deep("def f(p) = " + "(" * 100 + "  \n", 114)
        self.assert_bad("def f(p) = " + "(" * 99, 110)
        self.assert_deep("def f(p) = " + "let x=" * 100 + " ", 612)
        self.assert_bad("def f(p) = " + "let x=" * 99 + "let x", 610)

    def test_wrong_names_and_weights_go_behind(self):
        self.assert_deep("def f(p, p) = x def f(q) = f() | " + "(" * 100, 133)
        self.assert_deep("def f(p) = p" + " | p" * 100 + " def g(p) = " + "(" * 100 + "1", 524)


if __name__ == "__main__":
    unittest.main()
