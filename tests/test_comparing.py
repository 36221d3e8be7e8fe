"""Points 26 to 28: comparing."""

import inspect
import random
import unittest
from unittest import mock

from growingrecords import comparing, differing
from growingrecords.cases import cases
from growingrecords.comparing import alike, parting, refines, unrefined
from growingrecords.errors import Mismatch, TooLarge, UnknownFunction
from growingrecords.programs import Program
from growingrecords.running import outcome
from tests import model, samples
from tests.samples import plain, record
from tests.test_cases import CASES_201

ALL = (parting, unrefined, alike, refines)
NINES = "9" * 30


class CompareCase(unittest.TestCase):

    def check_parting(self, program, first, second, found):
        """These arguments part the functions: one goes well, and the other one fails or gives another value."""
        one, two = [outcome(program, name, *found) for name in (first, second)]
        self.assertIn("value", (one[0], two[0]))
        self.assertNotEqual(one, two)

    def check_unrefined(self, program, first, second, found):
        self.assertEqual(outcome(program, first, *found)[0], "value")
        self.check_parting(program, first, second, found)

    def told(self, program, first="f", second="g"):
        """Whether the functions are alike, whether g refines f, and whether f refines g."""
        row = [alike(program, first, second), refines(program, first, second), refines(program, second, first)]
        self.assertEqual(row[0], row[1] and row[2])
        for name, other, refined in ((first, second, row[1]), (second, first, row[2])):
            self.assertIs(alike(program, name, other), row[0])
            parted, lost = parting(program, name, other), unrefined(program, name, other)
            self.assertEqual((parted is None, lost is None), (row[0], refined))
            if parted is not None:
                self.assertEqual(len(parted), len(program.parameters(name)))
                self.check_parting(program, name, other, parted)
            if lost is not None:
                self.check_unrefined(program, name, other, lost)
        return row

    def read(self, first, second, parameters="p, q, r, s"):
        return Program.read(f"def f({parameters}) = {first}\ndef g({parameters}) = {second}")

    def assert_alike(self, first, second, parameters="p, q, r, s"):
        self.assertEqual(self.told(self.read(first, second, parameters)), [True, True, True], (first, second))

    def assert_refines(self, first, second, parameters="p, q, r, s"):
        """The second body refines the first one, but they are not alike."""
        self.assertEqual(self.told(self.read(first, second, parameters)), [False, True, False], (first, second))

    def assert_parted(self, first, second, parameters="p, q, r, s"):
        """Neither body refines the other one."""
        self.assertEqual(self.told(self.read(first, second, parameters)), [False, False, False], (first, second))


class TestInterface(unittest.TestCase):

    def test_all_are_defined_in_their_file(self):
        for function in ALL:
            self.assertEqual(inspect.getmodule(function), comparing)
            self.assertEqual(str(inspect.signature(function)), "(program, first, second)")

    def test_arguments_by_name_and_kinds_of_values(self):
        program = Program.read("def f(p) = p\ndef g(p) = p | {}")
        self.assertIs(alike(second="f", program=program, first="f"), True)
        self.assertIs(alike(second="f", program=program, first="g"), False)
        self.assertIs(refines(second="f", first="g", program=program), True)
        self.assertIs(refines(second="g", first="f", program=program), False)
        self.assertIsNone(parting(second="f", first="f", program=program))
        self.assertIsNone(unrefined(second="f", first="g", program=program))
        for found in (parting(second="g", first="f", program=program), unrefined(second="g", first="f", program=program)):
            self.assertIsInstance(found, tuple)
            self.assertIsInstance(found[0], int)

    def test_errors_in_their_order(self):
        program = Program.read(CASES_201 + "\ndef g(p) = p\ndef h(p, q) = p\ndef k() = 1")
        for function in ALL:
            for first, second, name in (("x", "y", "x"), ("x", "f", "x"), ("f", "y", "y"), ("g", "y", "y"), ("y", "y", "y")):
                with self.assertRaises(UnknownFunction) as caught:
                    function(program, first, second)
                self.assertEqual(caught.exception.name, name)
            for first, second in ("fg", "gf", "gk", "kg", "kh"):
                with self.assertRaises(Mismatch):
                    function(program, first, second)

    def test_too_large_tells_the_first_function(self):
        program = Program.read(CASES_201 + "\ndef h(p, q) = p.b")
        for function in ALL:
            for first, second in ("fh", "hf"):
                try:
                    told = function(program, first, second)
                except TooLarge as error:
                    self.assertEqual(error.name, first)
                else:
                    self.assertIn(function, (parting, unrefined) if isinstance(told, tuple) else (alike, refines))

    def test_without_parameters(self):
        program = Program.read("def f() = {a: 1}\ndef g() = {a: 2}\ndef h() = 1.a\ndef k() = 2.b\ndef l() = {}[put a = 1]")
        for pair in ("fg", "fh", "hf", "gl"):
            self.assertEqual(parting(program, *pair), ())
        for pair in ("fl", "hk", "hh"):
            self.assertIsNone(parting(program, *pair))
            self.assertIsNone(unrefined(program, *pair))
        self.assertEqual(unrefined(program, "f", "h"), ())
        self.assertIsNone(unrefined(program, "h", "f"))
        self.assertEqual([alike(program, "f", "l"), alike(program, "f", "g"), refines(program, "h", "g"), refines(program, "g", "h")],
                         [True, False, True, False])


class TestAlike(CompareCase):

    def test_a_function_itself_a_copy_and_a_caller(self):
        body = "if {p} has a then ({p}.a | {q})[put b = {p}] else {p} + {q}[rename a to b]"
        program = Program.read("def f(p, q) = " + body.format(p="p", q="q") + "\ndef g(x, p) = " + body.format(p="x", q="p")
                               + "\ndef h(q, p) = f(q, p)\ndef k(p, q) = g(q, p)")
        self.assertEqual(self.told(program, "f", "f"), [True, True, True])
        self.assertEqual(self.told(program, "f", "g"), [True, True, True])
        self.assertEqual(self.told(program, "f", "h"), [True, True, True])
        self.assertEqual(self.told(program, "f", "k"), [False, False, False])

    def test_which_failure_comes_does_not_matter(self):
        self.assert_alike("1.a", "{a: 1}[add a = 1]")
        self.assert_alike("let x = p.a in let y = q.b in 1", "let y = q.b in let x = p.a in 1")
        self.assert_alike("p[cut a, cut b]", "p[cut b, cut a]")
        self.assert_alike("p.a", "let x = p[rename a to a] in x.a")

    def test_the_order_of_the_parts_of_a_join(self):
        self.assert_alike("p + q", "q + p")
        self.assert_parted("p | q", "q | p")
        self.assert_parted("p - q", "q - p")
        self.assert_parted("p & q", "q & p")
        self.assert_alike("p + q + r", "r + (q + p)")
        self.assert_alike("let x = p + q in p | q", "let x = p + q in q | p")
        self.assert_alike("{a: 1} | {b: 2}", "{b: 2} | {a: 1}")
        self.assert_alike("{b: p, a: q}", "{a: q, b: p}")
        self.assert_parted("{a: p, b: q}", "{a: q, b: p}")

    def test_a_bar_for_a_plus(self):
        self.assert_refines("p + q", "p | q")
        self.assert_refines("p + {a: 1}", "p | {a: 1}")
        self.assert_alike("p[drop a] + {a: 1}", "p[drop a] | {a: 1}")
        self.assert_alike("(p - q) + q", "(p - q) | q")
        self.assert_alike("(p - q) + (q & p)", "(q & p) | (p - q)")

    def test_fields_that_are_not_mentioned(self):
        self.assert_parted("p", "p[only]")
        self.assert_refines("p[only a] | {b: 1}", "if p is record then p[only a, put b = 1] else {}")
        self.assert_parted("p[put a = 1] | {}", "p[only a, put a = 1]")
        self.assert_parted("p - q", "p[drop a] - q")
        self.assert_parted("p & q", "p - (p - q) | {a: 1}")
        self.assert_alike("p & q", "p - (p - q)")
        self.assert_alike("p | q", "(p - q) | q")
        self.assert_alike("(p - q) - r", "p - (q | r)")
        self.assert_alike("(p | q) & r", "(p & r) | (q & r)")
        self.assert_parted("(p | q) & r", "(p & r) | q")
        self.assert_alike("((p - q) | (q - p)) - r", "let x = p | q in let y = p & q in x - y - r")

    def test_names_differ_only_in_many_records_together(self):
        many = "(p & q & r & s & p.a & q.a)"
        self.assert_parted(f"p - {many}", "let x = r | s | p.a | q.a in p - {} | q - q | p[only]")
        self.assert_parted(f"let x = {many} in p | {{}}", f"p - {many}")
        self.assert_alike(f"(p & {many}) | q", f"let x = {many} in q")
        self.assert_parted(f"q | (p & {many})", f"let x = {many} in q")
        self.assert_alike(f"(p - {many}) | q", f"let x = {many} in (p - q) | q - (p - p)")

    def test_one_number(self):
        for number in ("0", "1", NINES):
            other = str(int(number) + 1) if number != NINES else NINES[:-1] + "8"
            self.assert_parted(f"p[put a = {{b: {number}}}]", f"p[put a = {{b: {other}}}]")
            self.assert_parted(number, other, "")
            self.assert_parted(f"if p is record then {number} else 5", f"if p is record then {other} else 5")
            self.assert_alike(f"p[put a = {number}]", f"p[drop a] + {{a: {number}}}")
            self.assert_parted("p", number)
            self.assert_parted("p.a", number)

    def test_numbers_and_integers_of_the_arguments(self):
        self.assert_parted("p", "q")
        self.assert_parted("p", "p.a")
        self.assert_parted("p.a", "p.b")
        self.assert_parted("p.a", "q.a")
        self.assert_parted("if p is record then 1 else p", "if p is record then 1 else 2")
        self.assert_parted("{a: p}", "{a: q}")
        self.assert_alike("{a: p}.a", "p")
        self.assert_refines("if p is record then 1.a else p", "p")
        self.assert_parted("{a: {b: {a: {b: p}}}}", "{a: {b: {a: {b: q}}}}")

    def test_records_and_integers(self):
        self.assert_refines("p | {}", "p")
        self.assert_parted("{}", "0")
        self.assert_alike("if p is record then p else 1.a", "p | {}")
        self.assert_parted("if p is record then 1 else 2", "if p is record then 2 else 1")
        self.assert_refines("if p.a is record then 1 else 1.a", "if p has a then 1 else 1.a")

    def test_steps(self):
        self.assert_refines("p[add a = 1]", "p[put a = 1]")
        self.assert_refines("p[cut a]", "p[drop a]")
        self.assert_refines("p[rename a to b]", "p[put b = p.a, drop a]")
        self.assert_alike("p[rename a to b]", "let x = p.a in p[drop a, add b = x]")
        self.assert_alike("p[rename a to a]", "let x = p.a in p")
        self.assert_alike("p[rename a to a]", "p[cut a, put a = p.a]")
        self.assert_alike("p[only a b]", "p[only b c a, drop c]")
        self.assert_parted("p[only a b]", "p[only b]")
        self.assert_alike("p[rename a to b, rename b to a]", "if p has b then p.x.x[put x = 1.a] else p[cut a, put a = p.a]")

    def test_what_must_be_equal_because_it_must_be_empty(self):
        """A record of which no name may stand twice in `p + p` is empty."""
        empty = "let x = p + p in let x = q + q in "
        self.assert_alike(empty + "p", empty + "q")
        self.assert_alike(empty + "p", empty + "{}")
        self.assert_parted("let x = p + p in p", "let x = p + p in q")
        self.assert_alike("let x = p.a + p.a in p[put a = {}]", "let x = p.a + p.a in p")
        self.assert_alike("let x = p.a + p.a in p.a", "let x = p.a + p.a in {}")
        same = "let x = (p - q) + (p - q) in let x = (q - p) + (q - p) in "
        self.assert_alike(same + "p | q", same + "q")
        self.assert_parted(same + "p", same + "q")
        self.assert_alike(same + "p - q", same + "{}")
        self.assert_alike(same + "p & r", same + "p - (q - r)")
        subset = "let x = (p - q) + (p - q) in "
        self.assert_alike(subset + "p | q", subset + "q")
        self.assert_parted(subset + "q | p", subset + "q")
        self.assert_alike(subset + "p & q", subset + "p")

    def test_records_at_different_paths(self):
        both = "let x = p.a | q.a in "
        self.assert_parted(both + "p.a", both + "q.a")
        self.assert_parted("let x = p.a | {} in p", "let x = p.a | {} in p.a")
        none = "let x = (p.a + p.a) + (q + q) in "
        self.assert_alike(none + "p.a", none + "q")
        self.assert_alike(none + "{b: p.a, c: q}", none + "{b: q, c: p.a}")
        self.assert_parted(none + "{b: p.a, c: q}", none + "{b: q, c: p}")
        chain = "let x = p.a.a.a + p.a.a.a in "
        self.assert_parted(chain + "p.a.a", chain + "p.a.a.a")
        self.assert_alike(chain + "p.a.a[put a = {}]", chain + "p.a.a")

    def test_deep_values(self):
        for depth in (10, 38):
            nested = "{a: " * depth + "{}" + "}" * depth
            dropped = "{a: " * depth + "{}" + "}" * (depth - 1) + "}[drop b]"
            self.assert_alike(nested, dropped)
            self.assert_parted(nested, nested.replace("{}", "{b: 1}"))
        self.assert_parted("p" + ".a" * 30 + ".b", "p" + ".a" * 30 + ".c")
        self.assert_alike("p" + ".a" * 38, "(p" + ".a" * 18 + ")" + ".a" * 20)


class TestExact(CompareCase):
    """Up to twelve cases and six paths the answer is exact."""

    def test_five_and_six_parts_joined_by_plus(self):
        for parts in (["p", "q", "r", "s", "p.a"], ["p", "q", "r", "s", "{a: 1}", "{b: 1}"], ["p", "q", "r", "s", "p", "q"]):
            self.assert_alike(" + ".join(parts), " + ".join(reversed(parts)))
            self.assert_refines(" + ".join(parts), " | ".join(parts))
        bodies = ["p + q + r + s + t", "t + (s + (r + (q + p)))", "p + q + r + s | t", "(p | q) + r + s + t"]
        head = "def {}(x) = let p = x in let q = x.a in let r = x.b in let s = x.c in let t = x.d in {}\n"
        program = Program.read("".join(head.format(name, body) for name, body in zip("fghk", bodies)))
        for pair, row in (("fg", [True, True, True]), ("fh", [False, True, False]), ("fk", [False, True, False]), ("hk", [False] * 3)):
            try:
                self.assertEqual(self.told(program, *pair), row)
            except TooLarge as error:
                self.assertEqual(error.name, pair[0])

    def test_twelve_cases(self):
        first = "if p has a then (if p has b then 1 else 2) else if q has c then (if q has d then p else q) else r.a.b | {}"
        second = first.replace("then 1 else 2", "then {}.a else 2").replace("then p else q", "then p | {} else q | {}")
        program = self.read(first, second)
        self.assertEqual(len(cases(program, "f")), 12)
        self.assertEqual(self.told(program), [False, False, True])

    def test_programs_with_few_cases_and_paths_are_never_too_large(self):
        chance = random.Random(28)
        done = 0
        while done < 300:
            samples.RecordMaker.names = chance.choice(["a", "ab", "abcdefgh"])
            try:
                program = Program.read(samples.two_bodies(chance, chance.choice([10, 30, 50]), list("pqrs")[:chance.randrange(1, 5)]))
                found = [*cases(program, "f"), *cases(program, "g")]
            except TooLarge:
                continue
            finally:
                samples.RecordMaker.names = "ab"
            asked = {question for case in found for question, _ in case.facts if question[0] == "record"}
            if len(asked) <= 6 and max(len(cases(program, "f")), len(cases(program, "g"))) <= 12:
                self.told(program)
                done += 1

    def test_the_limits_hold_only_for_many_cases_or_paths(self):
        pairs = [("p | q | r", "(p | q) | r | {}", False), ("p | q" + ".a" * 6, "(p | {}) | q" + ".a" * 6, True),
                 (CASES_201[14:-20], CASES_201[14:-20] + " | {}", True)]
        with mock.patch.object(differing, "MOST_ROWS_TOGETHER", 0):
            for first, second, many in pairs:
                program = self.read(first, second)
                if many:
                    with self.assertRaises(TooLarge) as caught:
                        alike(program, "g", "f")
                    self.assertEqual(caught.exception.name, "g")
                else:
                    self.told(program)

    def test_others_are_exact_or_too_large(self):
        many = " | ".join(f"{one}.{name}" for name in "abcd" for one in "pqrs")
        pairs = [(many, many, [True] * 3), (many, many.replace("p.a | q.a", "q.a | p.a"), [False] * 3),
                 (many, many + " | {}", [True] * 3), ("p | q", "p | q" + " | {}" * 30, [True] * 3),
                 ("p + q + r + s + p.a + q.a", "q.a + p.a + s + r + q + p", [True] * 3),
                 ("p" + ".a" * 40, "p" + ".a" * 41, [False] * 3), ("p" + ".a" * 40, "p" + ".a" * 40 + ".b", [False] * 3),
                 (CASES_201[14:], CASES_201[14:], [True] * 3), (CASES_201[14:], CASES_201[14:-2] + ".b", [False] * 3),
                 ("p", CASES_201[14:], [False, False, False]),
                 ("p + q + r + s + p.a + p.b + p.c", "p | q | r | s", [False, False, False])]
        for first, second, row in pairs:
            program = self.read(first, second)
            calls = [alike, refines, lambda program, first, second: refines(program, second, first)]
            for call, answer, name in zip(calls, row, "ffg"):
                try:
                    self.assertEqual(call(program, "f", "g"), answer, (first, second))
                except TooLarge as error:
                    self.assertEqual(error.name, name)


class TestAllWorlds(CompareCase):
    """Small functions against all worlds of arguments."""

    def check(self, text):
        program = Program.read(text)
        runner = model.Runner(model.parse(text))
        found = [model.distinct(world) for world in model.worlds([(runner, "f"), (runner, "g")], 2000, 1, True)]
        fs, gs = [[runner.run(name, world) for world in found] for name in "fg"]
        lost = [one[0] == "value" and one != two for one, two in zip(fs, gs)]
        gained = [two[0] == "value" and one != two for one, two in zip(fs, gs)]
        row = [not any(lost + gained), not any(lost), not any(gained)]
        self.assertEqual(self.told(program), row, text)
        return row

    def test_two_bodies_that_are_much_alike(self):
        chance = random.Random(26)
        rows = []
        while len(rows) < 700:
            parameters = list("pqr")[:chance.choice([0, 1, 1, 2, 2, 3])]
            try:
                rows.append(self.check(samples.two_bodies(chance, chance.choice([3, 6, 10]), parameters)))
            except (TooLarge, model.TooMany):
                pass
        for row in ([True] * 3, [False, True, False], [False, False, True], [False] * 3):
            self.assertGreater(rows.count(row), 25)

    def test_joins_that_leave_little_to_differ(self):
        chance = random.Random(27)
        rows = []
        while len(rows) < 300:
            parameters = list("pqr")[:chance.choice([1, 2, 2, 3])]
            try:
                rows.append(self.check(samples.two_rows_of_joins(chance, parameters)))
            except (TooLarge, model.TooMany):
                pass
        self.assertGreater(min(rows.count([True] * 3), rows.count([False] * 3)), 40)


if __name__ == "__main__":
    unittest.main()
