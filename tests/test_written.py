"""The written form of programs: point 11."""

import unittest

from growingrecords.programs import Program


class TestWritten(unittest.TestCase):

    def assert_written(self, body, expected):
        """The body is written so, as well as the written form itself."""
        before = "def e() = 1\ndef g(p) = p\ndef h(p, q) = p\ndef f(p, q) = "
        with self.subTest(body):
            program = Program.read(before + body)
            self.assertEqual(program.written(), before + expected)
            again = Program.read(program.written())
            self.assertEqual(again.written(), program.written())
            self.assertEqual((again.names, again.mentioned), (program.names, program.mentioned))

    def test_lines(self):
        self.assertEqual(Program.read(" def f ( )=1 ").written(), "def f() = 1")
        self.assertEqual(Program.read("def f(p,q,r,s)=p\n\n\ndef g ( p )=f(p,p,p,p)def h()=2\n").written(),
                         "def f(p, q, r, s) = p\ndef g(p) = f(p, p, p, p)\ndef h() = 2")

    def test_blanks(self):
        for body, expected in (
                ("h ( p ,1 )", "h(p, 1)"), ("e ( )", "e()"), ("{ a:1 ,b :{ } }", "{a: 1, b: {}}"),
                ("p . a [ put b=1 , drop c ] . d", "p.a[put b = 1, drop c].d"), ("p [ only a b ]", "p[only a b]"),
                ("p [ only ]", "p[only]"), ("let x=p|q in x-{a:0}", "let x = p | q in x - {a: 0}"),
                ("if not p has a and q is record then 1else 2", "if not p has a and q is record then 1 else 2"),
                ("p+q&p-q|1", "p + q & p - q | 1"), ("p[add a=1,cut b,rename c to d]", "p[add a = 1, cut b, rename c to d]"),
                ("let x=g(p)in g(x)", "let x = g(p) in g(x)"), ("let x={}in{}", "let x = {} in {}"),
                ("let x=p[cut a]in(x)", "let x = p[cut a] in x"), ("if{a:1}has a then{}else{}", "if {a: 1} has a then {} else {}"),
                ("if(p|q)has a then(p)else(q)", "if p | q has a then p else q"),
                ("if g(p)has a and{}is record then 1 else 2", "if g(p) has a and {} is record then 1 else 2"),
                ("if p[cut a]has a then p[only]else 1", "if p[cut a] has a then p[only] else 1"),
                ("if not{}has a and not g(p)is record then 1 else 2", "if not {} has a and not g(p) is record then 1 else 2"),
                ("p[put a={}]", "p[put a = {}]"), ("1 .a", "1.a"), ("{}.a", "{}.a"), ("p\n.a\n.b", "p.a.b"),
                ("0", "0")):
            self.assert_written(body, expected)

    def test_round_brackets_that_stand(self):
        for body in ("(let x = 1 in x).a", "(if p has a then p else q)[cut a]", "(let x = p in x) | q", "p | (let x = q in x)",
                     "(if p has a then 1 else 2) - p", "p & (if p has a then 1 else 2) + p", "if (let x = p in x) has a then 1 else 2",
                     "if not (if p has a then 1 else 2) is record then 1 else 2", "if (let x = p in x).a has a then 1 else 2",
                     "(p | q).a", "(p | q)[cut a, drop b].c", "p - (q - p)", "p | (q | p) | (q & (p + q))", "(p.a | q)[put a = p | q]",
                     "(let x = p in x | q).a | (p | q).b"):
            self.assert_written(body, body)

    def test_round_brackets_that_are_left_out(self):
        for body, expected in (
                ("(p)", "p"), ("((((1))))", "1"), ("({a: ((1))})", "{a: 1}"), ("(p | q)", "p | q"), ("(let x = (1) in (x))", "let x = 1 in x"),
                ("(if (p) has a then (1) else (2))", "if p has a then 1 else 2"), ("(p | q) - p", "p | q - p"), ("((p | q) - p) & q", "p | q - p & q"),
                ("(((p | q) - p)) & (q)", "p | q - p & q"), ("p | (q).a", "p | q.a"), ("(p.a).b", "p.a.b"), ("(g(p)).a", "g(p).a"),
                ("((p | q)).a", "(p | q).a"), ("g((p | q))", "g(p | q)"), ("g((let x = 1 in x))", "g(let x = 1 in x)"),
                ("{a: (p | q), b: (if p has a then 1 else 2)}", "{a: p | q, b: if p has a then 1 else 2}"),
                ("p[put a = (p | q), add b = (let x = 1 in x)]", "p[put a = p | q, add b = let x = 1 in x]"),
                ("let x = (let y = 1 in y) in (let z = x in (z))", "let x = let y = 1 in y in let z = x in z"),
                ("if (p | q) has a and not ((p - q)) is record then 1 else 2", "if p | q has a and not p - q is record then 1 else 2"),
                ("if p has a then (if q has a then 1 else 2) else (if q has b then 3 else 4)",
                 "if p has a then if q has a then 1 else 2 else if q has b then 3 else 4"),
                ("p | ((let x = 1 in x))", "p | (let x = 1 in x)"), ("p | ((q))", "p | q"), ("p | ((q | p))", "p | (q | p)")):
            self.assert_written(body, expected)

    def test_steps_that_follow_one_another(self):
        for body, expected in (
                ("p[cut a][drop b]", "p[cut a, drop b]"), ("p[cut a, drop b][put c = 1][only a]", "p[cut a, drop b, put c = 1, only a]"),
                ("(p[cut a])[drop b]", "p[cut a, drop b]"), ("((p[cut a])[drop b][only])[only a b]", "p[cut a, drop b, only, only a b]"),
                ("p[cut a].b[cut c]", "p[cut a].b[cut c]"), ("(p[cut a].b)[cut c][cut d]", "p[cut a].b[cut c, cut d]"),
                ("(p | q[cut a])[cut b]", "(p | q[cut a])[cut b]"), ("(let x = p in x[cut a])[cut b][cut c]", "(let x = p in x[cut a])[cut b, cut c]"),
                ("(p | q)[cut a][cut b]", "(p | q)[cut a, cut b]"), ("p[put a = p[cut a][cut b]][cut c]", "p[put a = p[cut a, cut b], cut c]"),
                ("g(p[cut a])[cut b]", "g(p[cut a])[cut b]"), ("p[put a = (q[cut b])]", "p[put a = q[cut b]]"),
                ("{a: p[cut a]}[cut a]", "{a: p[cut a]}[cut a]"), ("p[only a a]", "p[only a a]"), ("p[rename a to a][rename a to b]", "p[rename a to a, rename a to b]")):
            self.assert_written(body, expected)

    def test_rows_of_not(self):
        for count in range(7):
            expected = "not p" if count % 2 == 1 else "p"
            self.assert_written(f"if {'not ' * count}p has a then 1 else 2", f"if {expected} has a then 1 else 2")
            self.assert_written(f"if q is record and {'not ' * count}(p) is record and not p has b then 1 else 2",
                                f"if q is record and {expected} is record and not p has b then 1 else 2")

    def test_nothing_else_is_changed(self):
        for body in ("{b: 1, a: 2}", "p | {}", "p[put a = 1, put a = 1]", "p.a[cut b].c", "let x = 1 in p", "let p = p in p", "p[only b a b]",
                     "if p is record then 1 else 1", "if p has a and p has a then 1 else 2", f"{10 ** 30 - 1}", "0", "p[add a = q, cut a]"):
            self.assert_written(body, body)

    def test_longer_written_forms(self):
        text = "".join(f"def f{letter}(p)=p{'|p' * 39}\n" for letter in "abcdefghijklmnopqrstuvwxyz")
        program = Program.read(text)
        self.assertGreater(len(program.written()), 4000)
        self.assertEqual(Program.read(program.written()).written(), program.written())

    def test_written_twice(self):
        program = Program.read("def f(p) = (p)")
        self.assertEqual([program.written(), program.written()], ["def f(p) = p"] * 2)

    def test_a_deep_program(self):
        text = "def f(p) = " + "if p has a then 1 else " * 19 + "(((1)))"
        self.assertEqual(Program.read(text).written(), text.replace("(((1)))", "1"))
        text = "def f(p) = " + "{a: " * 79 + "p" + "}" * 79
        self.assertEqual(Program.read(text).written(), text)


if __name__ == "__main__":
    unittest.main()
