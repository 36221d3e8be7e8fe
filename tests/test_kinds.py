"""Points 24 and 25: kinds."""

import inspect
import operator
import random
import unittest

from growingrecords import kinds
from growingrecords.errors import Mismatch, NoBranch, TooLarge, UnknownFunction
from growingrecords.kinds import Kind, failing, going, taking
from growingrecords.programs import Program
from growingrecords.running import outcome
from tests import model, samples
from tests.samples import plain, record

LARGE = "def f(p, q) = let x = if q is record and q has a then 1 else 2 in p" + 33 * ".a"
VALUES = [0, {}, {"a": 1}, {"b": 1}, {"a": {}}, {"a": {"b": 1}}, {"a": 1, "b": {"a": 1}}, {"z": 1}, {"a": 1, "z": {}}]
SIGNS = {"|": operator.or_, "&": operator.and_, "-": operator.sub}


def members(kind, values=VALUES):
    """The numbers of those values that are members of a kind for one parameter."""
    return [index for index, value in enumerate(values) if (record(value),) in kind]


class TestInterface(unittest.TestCase):

    def test_all_are_defined_in_their_file(self):
        for one in (going, failing, taking, Kind):
            self.assertEqual(inspect.getmodule(one), kinds)
        told = {function.__name__: str(inspect.signature(function)) for function in (going, failing, taking, Kind.everything)}
        self.assertEqual(told, {"going": "(program, name)", "failing": "(program, name, *, at=None)",
                                "taking": "(program, name, at, *, branch)", "everything": "(program, name)"})
        for name in "everything is_empty member __or__ __and__ __sub__ __le__ __contains__ __bool__".split():
            self.assertIn(name, vars(Kind))
        self.assertIsInstance(vars(Kind)["everything"], staticmethod)
        self.assertIsInstance(vars(Kind)["is_empty"], property)

    def test_arguments_by_name(self):
        program = Program.read("def f(p) = if p has a then p.a else p")
        self.assertTrue(going(name="f", program=program))
        self.assertTrue(failing(name="f", program=program, at=None))
        self.assertTrue(taking(name="f", program=program, at=11, branch=True))
        self.assertTrue(Kind.everything(name="f", program=program))
        with self.assertRaises(TypeError):
            failing(program, "f", 1)
        with self.assertRaises(TypeError):
            taking(program, "f", 11, True)
        with self.assertRaises(TypeError):
            taking(program, "f", 11)

    def test_attributes(self):
        program = Program.read("def f(p, q) = p.b | q.a\ndef g() = {c: 1}")
        for kind in (going(program, "f"), failing(program, "f"), Kind.everything(program, "f")):
            self.assertEqual((kind.mentioned, kind.count), (("a", "b", "c"), 2))
            self.assertEqual(((kind | kind).mentioned, (kind - kind).count), (("a", "b", "c"), 2))
        self.assertEqual(going(program, "g").count, 0)

    def test_kinds_of_values(self):
        kind = going(Program.read("def f(p) = p.a"), "f")
        self.assertIs(kind.is_empty, False)
        self.assertIs((kind - kind).is_empty, True)
        self.assertIs(kind <= kind, True)
        self.assertIs(bool(kind), True)
        self.assertIs((1,) in kind, False)
        self.assertIsInstance(kind.member(), tuple)
        self.assertIsInstance(kind & kind, Kind)

    def test_errors_in_their_order(self):
        program = Program.read(LARGE + "\ndef g(p) = if p has a then 1 else 2")
        at = program.written().find("if p has")
        for call in (going, failing, Kind.everything, lambda *row: taking(*row, 3, branch=True)):
            with self.assertRaises(UnknownFunction) as caught:
                call(program, "h")
            self.assertEqual(caught.exception.name, "h")
        for place in (0, at + 1, at - 1, 10 ** 6, -1):
            with self.assertRaises(NoBranch) as caught:
                taking(program, "f", place, branch=False)
            self.assertEqual(caught.exception.at, place)
        for call in (going, failing, lambda *row: failing(*row, at=3), lambda *row: taking(*row, at, branch=True)):
            with self.assertRaises(TooLarge) as caught:
                call(program, "f")
            self.assertEqual(caught.exception.name, "f")

    def test_everything_does_not_use_the_cases(self):
        everything = Kind.everything(Program.read(LARGE), "f")
        self.assertTrue(everything)
        self.assertIn((1, record({"a": 1})), everything)
        self.assertEqual(len(everything.member()), 2)
        self.assertTrue(everything <= everything)
        self.assertFalse(everything - everything)


class TestGoingAndFailing(unittest.TestCase):

    def test_going_and_failing(self):
        program = Program.read("def f(p) = if p is record then p.a[put b = 1] else p")
        self.assertEqual(members(going(program, "f")), [0, 4, 5])
        self.assertEqual(members(failing(program, "f")), [1, 2, 3, 6, 7, 8])
        self.assertEqual(members(Kind.everything(program, "f")), list(range(9)))

    def test_failing_at_a_position(self):
        text = "def f(p) = if p is record then p.a[put b = 1] else p"
        program = Program.read(text)
        self.assertEqual(members(failing(program, "f", at=text.find("."))), [1, 3, 7])
        self.assertEqual(members(failing(program, "f", at=text.find("put"))), [2, 6, 8])
        self.assertEqual(members(failing(program, "f", at=None)), [1, 2, 3, 6, 7, 8])
        for at in (0, text.find("if"), text.find("p is"), 10 ** 6, -1):
            self.assertTrue(failing(program, "f", at=at).is_empty)

    def test_failing_at_a_position_of_a_called_function(self):
        text = "def g(p) = p.a\ndef f(p) = g(g(p))\ndef h(p) = p.b"
        program = Program.read(text)
        self.assertEqual(members(failing(program, "f", at=12)), members(failing(program, "f")))
        self.assertTrue(failing(program, "f", at=text.rfind(".")).is_empty)
        self.assertTrue(failing(program, "h", at=12).is_empty)

    def test_functions_that_always_go_well_or_never(self):
        program = Program.read("def f(p) = 1\ndef g(p) = p.a | 1")
        self.assertEqual(members(going(program, "f")), list(range(9)))
        self.assertTrue(failing(program, "f").is_empty)
        self.assertIsNone(failing(program, "f").member())
        self.assertTrue(going(program, "g").is_empty)
        self.assertTrue(Kind.everything(program, "g") <= failing(program, "g"))

    def test_without_parameters(self):
        program = Program.read("def f() = 1\ndef g() = 1.a")
        at = program.written().find(".")
        for kind in (going(program, "f"), failing(program, "g"), Kind.everything(program, "g"), failing(program, "g", at=at)):
            self.assertEqual(kind.member(), ())
            self.assertIn((), kind)
            self.assertTrue(kind)
        for kind in (failing(program, "f"), going(program, "g"), going(program, "f") & going(program, "g")):
            self.assertIsNone(kind.member())
            self.assertNotIn((), kind)
            self.assertFalse(kind)
        self.assertTrue(going(program, "f") <= failing(program, "g"))
        self.assertFalse(going(program, "f") <= going(program, "g"))


class TestTaking(unittest.TestCase):

    def both(self, program, name, at):
        return members(taking(program, name, at, branch=True)), members(taking(program, name, at, branch=False))

    def test_both_branches(self):
        text = "def f(p) = if p is record and p has a then 1 else 2"
        self.assertEqual(self.both(Program.read(text), "f", 11), ([2, 4, 5, 6, 8], [0, 1, 3, 7]))

    def test_a_test_that_fails_takes_neither_branch(self):
        text = "def f(p) = if p has a and not p.a has b then 1 else 2"
        self.assertEqual(self.both(Program.read(text), "f", 11), ([4], [1, 3, 5, 7]))

    def test_whether_or_not_the_run_fails_later(self):
        text = "def f(p) = let x = if p is record then 1 else 2 in p.a.b"
        self.assertEqual(self.both(Program.read(text), "f", 19), ([1, 2, 3, 4, 5, 6, 7, 8], [0]))
        text = "def f(p) = if p is record then p.a else p.a"
        self.assertEqual(self.both(Program.read(text), "f", 11), ([1, 2, 3, 4, 5, 6, 7, 8], [0]))

    def test_ifs_that_a_run_does_not_come_to(self):
        text = "def f(p) = if p is record then (if p has a then 1 else 2) else 3\ndef g(p) = p"
        program = Program.read(text)
        self.assertEqual(self.both(program, "f", text.find("if p has")), ([2, 4, 5, 6, 8], [1, 3, 7]))
        self.assertEqual(self.both(program, "g", 11), ([], []))

    def test_an_if_that_is_called_from_several_places(self):
        text = "def g(p) = if p is record then 1 else 2\ndef f(p) = {b: g(p), a: g(p[put c = 1].a)}"
        self.assertEqual(self.both(Program.read(text), "f", 11), ([1, 2, 3, 4, 5, 6, 7, 8], [0, 2, 6, 8]))

    def test_nested_ifs_and_ifs_in_tests(self):
        text = "def f(p) = if (if p is record then p else {}) has a then if p.a is record then 1 else 2 else 3"
        program = Program.read(text)
        self.assertEqual(self.both(program, "f", text.find("if (")), ([2, 4, 5, 6, 8], [0, 1, 3, 7]))
        self.assertEqual(self.both(program, "f", text.find("if p is")), ([1, 2, 3, 4, 5, 6, 7, 8], [0]))
        self.assertEqual(self.both(program, "f", text.find("if p.a")), ([4, 5], [2, 6, 8]))


class TestOperators(unittest.TestCase):

    def test_sets(self):
        program = Program.read("def f(p) = p.a\ndef g(p) = p.b\ndef h(p) = p.a.b")
        f, g, h = going(program, "f"), going(program, "g"), going(program, "h")
        self.assertEqual(members(f | g), [2, 3, 4, 5, 6, 8])
        self.assertEqual(members(f & g), [6])
        self.assertEqual(members(f - g), [2, 4, 5, 8])
        self.assertEqual(members(g - h - f), [3])
        self.assertEqual([h <= f, f <= h, f <= g, f <= f | g, f & g <= g, f - f <= h], [True, False, False, True, True, True])
        self.assertTrue(h >= f & h)

    def test_kinds_do_not_change(self):
        program = Program.read("def f(p) = p.a\ndef g(p) = p.b")
        f, g = going(program, "f"), going(program, "g")
        both = f & g
        for one in (f | g, f - g, both | g, both - f):
            self.assertNotEqual(members(one), members(both))
        self.assertEqual([members(f), members(g), members(both)], [[2, 4, 5, 6, 8], [3, 6], [6]])

    def test_truth_value_and_member(self):
        program = Program.read("def f(p) = p.a + p.b\ndef g(p) = p[add a = 1]")
        f, g = going(program, "f"), going(program, "g")
        self.assertFalse(f & g)
        self.assertIsNone((f & g).member())
        self.assertTrue((f & g).is_empty)
        self.assertTrue(f | g)
        self.assertIn((f - g).member(), f)
        self.assertEqual(outcome(program, "g", *g.member())[0], "value")

    def test_members_with_names_that_are_not_mentioned(self):
        program = Program.read("def f(p, q) = p + q\ndef g(p, q) = (p - q) + {a: 1}\ndef h(p, q) = (q - p) + p[only]")
        failed = failing(program, "f") & going(program, "g") & going(program, "h")
        first, second = failed.member()
        self.assertTrue(set(first) & set(second))
        self.assertEqual(outcome(program, "f", first, second)[:2], ("failure", "shared"))

    def test_several_names_that_are_not_mentioned(self):
        text = "def f(p, q, r) = (p - q) + r\ndef g(p, q, r) = (q - p) + r\ndef h(p, q, r) = p + q\ndef k(p, q, r) = p | q | r"
        program = Program.read(text)
        records = going(program, "k")
        places = [at for at in range(len(text)) if text[at] == "+"]
        three = [failing(program, name, at=at) for name, at in zip("fgh", places)]
        member = (three[0] & three[1] & three[2] & records).member()
        self.assertEqual([outcome(program, name, *member)[1] for name in "fgh"], ["shared"] * 3)
        self.assertFalse((three[0] & three[1] & records & going(program, "h")).is_empty)
        self.assertFalse((three[0] & three[1] & records) <= three[2])

    def test_mismatch(self):
        first = Program.read("def f(p) = p.a\ndef g(p, q) = p.b\ndef h() = 1")
        second = Program.read("def f(p) = p.a")
        third = Program.read("def f(p) = p.b.a")
        pairs = [(going(first, "f"), going(first, "g")), (going(first, "f"), going(first, "h")),
                 (going(first, "f"), going(second, "f")), (Kind.everything(first, "f"), Kind.everything(second, "f"))]
        for one, two in pairs:
            for sign in (*SIGNS.values(), operator.le):
                with self.assertRaises(Mismatch):
                    sign(one, two)
                with self.assertRaises(Mismatch):
                    sign(two, one)
        self.assertFalse(going(first, "f") <= going(third, "f"))
        self.assertTrue(going(third, "f") <= going(first, "f") | failing(third, "f") | going(third, "f"))

    def test_two_programs_with_the_same_text(self):
        text = "def f(p, q) = (p - q) + p.a"
        one, two = Program.read(text), Program.read(text)
        self.assertTrue(going(one, "f") <= going(two, "f"))
        self.assertTrue(going(one, "f") - going(two, "f") <= Kind.everything(two, "f") - Kind.everything(one, "f"))
        self.assertTrue((going(one, "f") & failing(two, "f")).is_empty)
        self.assertTrue(Kind.everything(one, "f") <= going(two, "f") | failing(one, "f"))

    def test_very_deep_members(self):
        program = Program.read("def f(p) = p" + ".a" * 79 + "\ndef g(p) = p" + ".a" * 40)
        kind = failing(program, "f") & going(program, "g")
        self.assertEqual(kind.member()[0].size, 40)
        self.assertTrue(going(program, "f") <= going(program, "g"))

    def test_long_rows_of_operators(self):
        program = Program.read("def f(p) = p.a\ndef g(p) = p.b.a\ndef h(p) = p[cut b].a")
        three = [going(program, name) for name in "fgh"]
        kind = three[0]
        for index in range(300):
            kind = SIGNS["|&-"[index % 2]](kind, three[index % 3])
        self.assertEqual(members(kind), [6])
        self.assertTrue(kind <= three[0])


class TestAgainstTheModel(unittest.TestCase):
    """Kinds of two functions, and what the operators make of them, against all worlds of arguments."""

    def setUp(self):
        self.chance = random.Random(14)
        self.found = {"empty": 0, "member": 0, "below": 0, "mismatch": 0}

    def base_kind(self, program, runner, text, name):
        """A kind, and what tells of plain arguments whether they are its members."""
        ifs = [at for at in range(len(text)) if text[at:at + 3] == "if "]
        dice = self.chance.random()
        if ifs and dice < 0.4:
            at, branch = self.chance.choice(ifs), self.chance.random() < 0.5

            def inside(world):
                runner.run(name, world)
                return (at, branch) in runner.branches

            return taking(program, name, at, branch=branch), inside
        if dice < 0.6:
            return going(program, name), lambda world: runner.run(name, world)[0] == "value"
        ends = [ending[2] for ending in (runner.run(name, world) for world in self.worlds) if ending[0] == "failure"]
        at = self.chance.choice([None, *ends])

        def fails(world):
            ending = runner.run(name, world)
            return ending[0] == "failure" and at in (None, ending[2])

        return failing(program, name, at=at), fails

    def check_kind(self, kind, row):
        self.assertEqual([record(world) in kind for world in self.worlds], row, self.texts)
        self.assertEqual(kind.is_empty, not any(row), self.texts)
        self.assertEqual(bool(kind), any(row), self.texts)
        member = kind.member()
        self.found["member" if any(row) else "empty"] += 1
        if any(row):
            self.assertIn(member, kind)
            self.assertEqual(record(plain(member)), member)
        else:
            self.assertIsNone(member)

    def check(self, texts):
        programs = [Program.read(text) for text in texts]
        runners = [model.Runner(model.parse(text)) for text in texts]
        names = [program.names[-1] for program in programs]
        if len({len(program.parameters(name)) for program, name in zip(programs, names)}) > 1:
            return False
        self.texts = texts
        self.worlds = model.worlds(list(zip(runners, names)), 600, 2)
        base = [self.base_kind(*row) for row in zip(programs, runners, texts, names) for _ in range(2)]
        kinds_made = [(kind, [inside(world) for world in self.worlds]) for kind, inside in base]
        everything = (Kind.everything(programs[0], names[0]), [True] * len(self.worlds))
        kinds_made.append(everything)
        for kind, row in kinds_made:
            self.check_kind(kind, row)
        if programs[0].mentioned != programs[1].mentioned:
            self.found["mismatch"] += 1
            with self.assertRaises(Mismatch):
                kinds_made[0][0] | kinds_made[2][0]
            return True
        for _ in range(8):
            (one, ones), (two, twos) = self.chance.choice(kinds_made), self.chance.choice(kinds_made)
            sign = self.chance.choice("|&-")
            row = [first or second if sign == "|" else first and (second == (sign == "&")) for first, second in zip(ones, twos)]
            kinds_made.append((SIGNS[sign](one, two), row))
            self.check_kind(*kinds_made[-1])
            below = all(second or not first for first, second in zip(ones, twos))
            self.assertEqual(one <= two, below, self.texts)
            self.found["below"] += below
        return True

    def test_two_programs(self):
        done = 0
        while done < 350:
            texts = [samples.definitions(self.chance, 10, (0, 1, 2, 2)) for _ in range(2)]
            try:
                done += self.check(texts)
            except (TooLarge, model.TooMany):
                pass
        self.assertGreater(min(self.found.values()), 50)

    def test_two_functions_of_a_program(self):
        done = 0
        while done < 150:
            text = samples.definitions(self.chance, 10, self.chance.choice([(1,), (2,)]), "fg")
            try:
                done += self.check_both_functions(text)
            except (TooLarge, model.TooMany):
                pass

    def check_both_functions(self, text):
        program = Program.read(text)
        runner = model.Runner(model.parse(text))
        self.texts = text
        self.worlds = model.worlds([(runner, "f"), (runner, "g")], 600, 2)
        (f, fs), (g, gs) = [(going(program, name), [runner.run(name, world)[0] == "value" for world in self.worlds])
                            for name in "fg"]
        self.check_kind(f & g, [one and two for one, two in zip(fs, gs)])
        self.check_kind(f - g, [one and not two for one, two in zip(fs, gs)])
        self.check_kind(failing(program, "g") | f, [one or not two for one, two in zip(fs, gs)])
        self.assertEqual(f <= g, all(two or not one for one, two in zip(fs, gs)), text)
        self.assertEqual(outcome(program, "f", *(f - g).member())[0] if f - g else "value", "value")
        return True


if __name__ == "__main__":
    unittest.main()
