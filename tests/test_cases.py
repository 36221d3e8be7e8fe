"""Points 18 to 23: cases."""

import inspect
import random
import unittest

from growingrecords import cases as module
from growingrecords.cases import Case, case_of, cases
from growingrecords.errors import TooLarge, UnknownFunction, WrongArguments
from growingrecords.programs import Program
from growingrecords.running import outcome
from tests import model, samples
from tests.samples import plain, record

ROW = "let x = if q is record then 1 else 2 in let x = if r is record then 1 else 2 in let x = if s is record then 1 else 2 in "
CASES_200 = "def f(p, q, r, s) = " + ROW + "p" + 12 * ".a"
CASES_201 = "def f(p, q) = let x = if q is record and q has a then 1 else 2 in p" + 33 * ".a"


def read(text):
    """The program of a text; the body of a function of p, q, r and s may be given alone."""
    return Program.read(text if text.startswith("def") else "def f(p, q, r, s) = " + text)


def facts(text):
    """The facts of all cases of the last function."""
    program = read(text)
    return [case.facts for case in cases(program, program.names[-1])]


def isrec(index, *names):
    return ("record", (index, *names))


class TestInterface(unittest.TestCase):

    def test_all_are_defined_in_their_file(self):
        for one in (cases, case_of, Case):
            self.assertEqual(inspect.getmodule(one), module)
        self.assertEqual(str(inspect.signature(cases)), "(program, name)")
        self.assertEqual(str(inspect.signature(case_of)), "(program, name, *arguments)")
        self.assertIn("__contains__", vars(Case))

    def test_kinds_of_values(self):
        program = read("if p has a then p.a else p.b")
        found = cases(program, "f")
        self.assertIsInstance(found, list)
        for case in [*found, case_of(program, "f", 1, 2, 3, 4)]:
            self.assertIsInstance(case, Case)
            self.assertIsInstance(case.facts, tuple)
            self.assertIsInstance(case.example, tuple)
            self.assertIsInstance(case.outcome, tuple)
            self.assertEqual(len(case.example), 4)
            self.assertIs((1, 2, 3, 4) in case, case is found[0])

    def test_a_new_list_each_time(self):
        program = read("p.a")
        first = cases(program, "f")
        first.clear()
        self.assertEqual(len(cases(program, "f")), 3)

    def test_arguments_by_name(self):
        program = read("def f() = 1")
        self.assertEqual(len(cases(name="f", program=program)), 1)
        self.assertEqual(case_of(name="f", program=program).facts, ())

    def test_errors_in_their_order(self):
        program = Program.read(CASES_201 + "\ndef g(p) = p")
        with self.assertRaises(UnknownFunction) as caught:
            cases(program, "h")
        self.assertEqual(caught.exception.name, "h")
        with self.assertRaises(UnknownFunction):
            case_of(program, "h", 1, 2, 3)
        with self.assertRaises(WrongArguments) as caught:
            case_of(program, "f", 1)
        self.assertEqual(caught.exception.name, "f")
        with self.assertRaises(WrongArguments):
            case_of(program, "g")
        for arguments in ((1, 2), (record({}), record({}))):
            with self.assertRaises(TooLarge) as caught:
                case_of(program, "f", *arguments)
            self.assertEqual(caught.exception.name, "f")
        self.assertEqual(len(cases(program, "g")), 1)


class TestFacts(unittest.TestCase):

    def test_example_of_the_document(self):
        lies = ("lies", None, ((0,), (1,)), ((True, True),))
        told = facts("def join(p, q) = p + q")
        self.assertEqual(told[3], ((isrec(0), True), (isrec(1), True), (lies, True)))
        self.assertEqual(told[2], ((isrec(0), True), (isrec(1), True), (lies, False)))
        self.assertEqual(told[:2], [((isrec(0), False),), ((isrec(0), True), (isrec(1), False))])

    def test_no_questions(self):
        for text in ("def f() = 1", "def f(p) = p", "{a: p}.a", "{a: 1}.b", "1.a", "if {} is record then 1 else 2",
                     "if 5 is record then 1 else 2", "{a: 1} + {a: 2}", "{a: 1} + {b: 2}", "{a: 1} - {a: 2}", "{}[cut a]"):
            self.assertEqual(facts(text), [()], text)

    def test_false_comes_first_and_facts_are_in_the_order_of_asking(self):
        no, has = (isrec(0), False), (isrec(0), True)
        self.assertEqual(facts("p.a"), [(no,), (has, (("has", (0,), "a"), False)), (has, (("has", (0,), "a"), True))])
        self.assertEqual(facts("p[rename a to b]"), [
            (no,), (has, (("has", (0,), "a"), False)),
            (has, (("has", (0,), "a"), True), (("has", (0,), "b"), False)),
            (has, (("has", (0,), "a"), True), (("has", (0,), "b"), True))])
        self.assertEqual(facts("p[rename a to a]"), facts("p.a"))

    def test_paths_of_questions(self):
        deep = facts("q.a.b")
        self.assertEqual(deep[-1], ((isrec(1), True), (("has", (1,), "a"), True), (isrec(1, "a"), True),
                                    (("has", (1, "a"), "b"), True)))
        self.assertEqual(len(deep), 5)
        self.assertEqual(facts("{x: q}.x.a.b"), deep)
        self.assertEqual(facts("def g(p) = p.b\ndef f(p, q) = g(q.a)"), deep)

    def test_questions_are_asked_once(self):
        self.assertEqual(facts("let x = p.a in p.a"), facts("p.a"))
        self.assertEqual(facts("let x = p.a in p[cut a]"), facts("p.a"))
        self.assertEqual(facts("if p is record then p.a else p.a"), facts("p.a"))

    def test_steps_that_ask_nothing(self):
        only_record = [((isrec(0), False),), ((isrec(0), True),)]
        for text in ("p[put a = 1]", "p[drop a]", "p[only a]", "p[only]", "p[put a = 1].a", "p[drop a].a", "p[only b].a",
                     "p[put a = 1][cut a]", "p[drop a][add a = 1]", "if p[put a = 1] has a then 1 else 2",
                     "p[drop a, put b = 1].b", "p | {}", "{} | p", "p - {a: 1}", "p & {a: 1}"):
            self.assertEqual(facts(text), only_record, text)
        self.assertEqual(facts("p[rename a to b].a"), facts("p[rename a to b]"))
        self.assertEqual(facts("p[rename a to b].b"), facts("p[rename a to b]"))

    def test_steps_that_ask_on(self):
        for step in ("put b = 1", "drop b", "only a", "only b a a", "drop c"):
            self.assertEqual(facts(f"p[{step}].a"), facts("p.a"), step)
        start = ((isrec(0), True), (("has", (0,), "b"), True), (("has", (0,), "c"), False))
        self.assertEqual([case for case in facts("p[rename b to c].a") if case[:3] == start],
                         [(*start, (("has", (0,), "a"), answer)) for answer in (False, True)])

    def test_joins_ask_in_their_order(self):
        start = [((isrec(0), False),), ((isrec(0), True), (isrec(1), False))]
        both = ((isrec(0), True), (isrec(1), True))
        left, right = ("has", (0,), "a"), ("has", (1,), "a")
        self.assertEqual(facts("if p | q has a then 1 else 2"), [
            *start, (*both, (right, False), (left, False)), (*both, (right, False), (left, True)), (*both, (right, True))])
        for sign in "-&":
            self.assertEqual(facts(f"if p {sign} q has a then 1 else 2"), [
                *start, (*both, (left, False)), (*both, (left, True), (right, False)), (*both, (left, True), (right, True))])
        self.assertEqual(facts("if p + q has a then 1 else 2")[-3:], [
            (*both, (("lies", "a", ((0,), (1,)), ((True, True),)), False), (("lies", None, ((0,), (1,)), ((True, True),)), False),
             (right, True)),
            (*both, (("lies", "a", ((0,), (1,)), ((True, True),)), False), (("lies", None, ((0,), (1,)), ((True, True),)), True)),
            (*both, (("lies", "a", ((0,), (1,)), ((True, True),)), True))])

    def test_left_is_looked_at_first(self):
        self.assertEqual(facts("p | q")[:2], [((isrec(0), False),), ((isrec(0), True), (isrec(1), False))])
        self.assertEqual(facts("5 | q"), [()])
        self.assertEqual(facts("q | 5"), [((isrec(1), False),), ((isrec(1), True),)])

    def test_lies_asks_the_mentioned_names_and_then_the_others(self):
        told = facts("def g(p) = p.b.a\ndef f(p, q) = p + q")
        rows = [("lies", name, ((0,), (1,)), ((True, True),)) for name in ("a", "b", None)]
        start = ((isrec(0), True), (isrec(1), True))
        self.assertEqual(told[2:], [
            (*start, (rows[0], False), (rows[1], False), (rows[2], False)),
            (*start, (rows[0], False), (rows[1], False), (rows[2], True)),
            (*start, (rows[0], False), (rows[1], True)), (*start, (rows[0], True))])

    def test_ways_of_lies(self):
        def last(text):
            return facts(text)[-1][-1][0]

        self.assertEqual(last("p[put a = 1] + q"), ("lies", "a", ((0,), (1,)), ((False, True), (True, True))))
        self.assertEqual(last("q + p"), ("lies", None, ((1,), (0,)), ((True, True),)))
        self.assertEqual(last("(p - q) + (q | r)"), ("lies", None, ((0,), (1,), (2,)), ((True, False, True),)))
        self.assertEqual(last("(p | q) + (q | p)"), ("lies", None, ((0,), (1,)), ((False, True), (True, False), (True, True))))
        self.assertEqual(last("{a: 1} + (p & q)"), ("lies", "a", ((0,), (1,)), ((True, True),)))
        self.assertEqual(last("({a: 1} - p) + {a: 1}"), ("lies", "a", ((0,),), ((False,),)))
        self.assertEqual(last("p + p"), ("lies", None, ((0,),), ((True,),)))
        self.assertEqual(last("p.a + p"), ("lies", "a", ((0, "a"), (0,)), ((True, True),)))

    def test_names_that_cannot_be_shared_are_not_asked_for(self):
        start = ((isrec(0), True), (isrec(1), True))
        lies = ("lies", "a", ((0,), (1,)), ((True, True),))
        self.assertEqual(facts("p[only a] + q")[2:], [(*start, (lies, False)), (*start, (lies, True))])
        self.assertEqual(facts("p[only] + q")[2:], [start])
        self.assertEqual(facts("(p - q) + q")[2:], [start])

    def test_answers_that_follow_from_lies(self):
        # In the last case a name lies in p - q and in r; before that none does, so p.a is at a known place.
        told = facts("let x = ({a: 1} - p) + {a: 1} in p.a")
        lies = ("lies", "a", ((0,),), ((False,),))
        self.assertEqual(told, [((isrec(0), False),), ((isrec(0), True), (lies, False)), ((isrec(0), True), (lies, True))])
        told = facts("let x = p + q in if p has a then (if q has a then 1 else 2) else (if q has a then 3 else 4)")
        none = ((isrec(0), True), (isrec(1), True), (("lies", "a", ((0,), (1,)), ((True, True),)), False),
                (("lies", None, ((0,), (1,)), ((True, True),)), False))
        has = ("has", (0,), "a"), ("has", (1,), "a")
        self.assertEqual(told[2:5], [(*none, (has[0], False), (has[1], False)), (*none, (has[0], False), (has[1], True)),
                                     (*none, (has[0], True))])

    def test_answers_to_lies_that_follow(self):
        self.assertEqual(facts("let x = p + q in q + p"), facts("p + q"))
        self.assertEqual(facts("let x = p[cut a] in p[drop a] + {a: 1}"), facts("p[cut a]"))
        told = facts("if p has a then p + {a: 1} else p + {a: 1}")
        self.assertEqual(told, [((isrec(0), False),), ((isrec(0), True), (("has", (0,), "a"), False)),
                                ((isrec(0), True), (("has", (0,), "a"), True))])
        told = facts("let x = p + q in let y = (p | q) + r in p + r")
        self.assertEqual(told, facts("let x = p + q in (p | q) + r"))
        self.assertEqual(told[-2][-1], (("lies", None, ((0,), (1,), (2,)),
                                         ((False, True, True), (True, False, True), (True, True, True))), True))


class TestExamples(unittest.TestCase):

    def examples(self, text):
        program = read(text)
        name = program.names[-1]
        found = cases(program, name)
        for case in found:
            self.assertIn(case.example, case)
            self.assertEqual([case.example in other for other in found].count(True), 1)
            told = outcome(program, name, *case.example)
            if case.outcome[0] == "failure":
                self.assertEqual(told, case.outcome)
            else:
                self.assertEqual(told[0], "value")
        return [case.example for case in found]

    def sizes(self, text):
        return [model.size(plain(example)) for example in self.examples(text)]

    def test_fewest_fields(self):
        self.assertEqual(self.sizes("p.a.b"), [0, 0, 1, 1, 2])
        self.assertEqual(self.sizes("def f(p, q) = p + q"), [0, 0, 0, 2])
        self.assertEqual(self.sizes("(p - q) + r"), [0, 0, 0, 0, 2])
        self.assertEqual(self.sizes("def f(p, q, r) = (p | q) + (q | r)"), [0, 0, 0, 0, 1])
        self.assertEqual(self.sizes("({a: 1} - p) + {a: 1}"), [0, 1, 0])
        self.assertEqual(self.sizes("({a: 1} & p) + (p & q)"), [0, 0, 0, 2])

    def test_arguments_that_nothing_is_asked_of_are_integers(self):
        for example in self.examples("q.a"):
            self.assertEqual([isinstance(value, int) for value in example], [True, example[1] == 0, True, True])

    def test_shape(self):
        self.assertEqual([plain(example) for example in self.examples("def f(p, q) = p.b | p.a")][-1], ({"a": {}, "b": {}}, 0))

    def test_without_parameters(self):
        self.assertEqual(self.examples("def f() = 1.a"), [()])
        program = read("def f() = {a: 1}")
        self.assertEqual(cases(program, "f")[0].outcome, ("value", "{a: 1}"))
        self.assertIn((), cases(program, "f")[0])
        self.assertIn((), case_of(program, "f"))


class TestMembers(unittest.TestCase):

    def test_each_tuple_is_in_exactly_one_case(self):
        program = read("def f(p, q) = if p has a then (p - q) + {a: 1} else q.b.c")
        found = cases(program, "f")
        values = [0, {}, {"a": 1}, {"z": 1}, {"b": 1}, {"b": {}}, {"b": {"c": 1}}, {"a": 1, "z": {"a": 1}}]
        for first in values:
            for second in values:
                arguments = record((first, second))
                held = [case for case in found if arguments in case]
                self.assertEqual(len(held), 1)
                self.assertEqual(case_of(program, "f", *arguments).facts, held[0].facts)

    def test_membership_is_told_by_true_and_false(self):
        found = cases(read("def f(p) = p.a"), "f")
        self.assertIs(record(({"a": 1},)) in found[2], True)
        self.assertIs((5,) in found[2], False)

    def test_names_that_are_not_mentioned(self):
        found = cases(read("def f(p, q) = p + q | {a: 1}"), "f")
        self.assertEqual([record(({"zz": 1}, {"zz": 1})) in case for case in found], [False, False, False, True, False])
        self.assertEqual([record(({"a": 1}, {"a": 1})) in case for case in found], [False] * 4 + [True])
        self.assertEqual([record(({"zz": 1}, {"a": 1, "yy": 1})) in case for case in found], [False, False, True, False, False])


class TestOutcomes(unittest.TestCase):

    def check_residual(self, program, name, case):
        """The residual is as point 22 asks; returns its text."""
        kind, text = case.outcome
        self.assertEqual(kind, "value")
        parameters = program.parameters(name)
        line = f"def {name}({', '.join(parameters)}) = {text}"
        self.assertLessEqual(set(Program.read(line).mentioned), set(program.mentioned))
        check_words(self, model.parse(line)[name][1], parameters)
        return line

    def residuals(self, text):
        program = read(text)
        name = program.names[-1]
        for case in cases(program, name):
            if case.outcome[0] == "value":
                again = Program.read(self.check_residual(program, name, case))
                self.assertEqual(outcome(again, name, *case.example), outcome(program, name, *case.example))
        return [case.outcome for case in cases(program, name)]

    def test_failures(self):
        text = "def g(p) = p.a\ndef f(p) = g(p)[add b = 1]"
        dot, call, add = text.find("."), text.find("g(p)["), text.find("add")
        self.assertEqual(self.residuals(text)[:4], [
            ("failure", "record", dot, (call,), None), ("failure", "lacks", dot, (call,), "a"),
            ("failure", "record", add, (), None), ("value", self.residuals(text)[3][1])])
        self.assertEqual(self.residuals(text)[4], ("failure", "there", add, (), "b"))

    def test_values_without_tests_and_calls(self):
        self.residuals("def g(p) = if p has a then p else {a: 1}\ndef f(p, q) = let x = g(p) in {b: x.a, a: g(q)}")
        self.residuals("(if p is record then p else {c: p})[put c = if q has a then q.a else 7, only c a, drop b] - (q & r)")

    def test_steps_and_joins_that_are_written_otherwise(self):
        for text in ("p[add a = 1]", "p[cut a]", "p[rename a to b]", "p[rename a to a]", "p + q", "p[rename a to b, rename b to a]",
                     "(p | q)[rename a to b]", "(p - q)[rename a to b].b", "{a: 1, b: 2}[rename a to c]", "((p + q) - (r & s)).a"):
            self.residuals(text)

    def test_residuals_of_functions_as_heavy_as_can_be(self):
        renames = "p[rename a to b, rename b to c, rename c to d, rename d to e]"
        for text in (renames, "p" + ".a" * 70, "{a: " * 79 + "p" + "}" * 79, "p | (" * 39 + "p" + ")" * 39, "p" + " + {}" * 39,
                     "p[put a = " * 39 + "p" + "]" * 39, "{a: p | q}" + "[put b = 1]" * 35, "p[only " + "a " * 78 + "]",
                     "let x = p | q in let x = x | x in let x = x | x in x[rename a to b]", "p[rename a to a, rename a to b, rename b to a, rename a to a]",
                     "let x = p.a.b.c in {a: x, b: x}[rename a to c, rename b to a]"):
            self.residuals(heaviest(text))


def heaviest(text):
    """The body with so many steps that it weighs as much as it may."""
    text = f"({text})"
    while True:
        try:
            read(text + "[drop z]")
        except TooLarge:
            return text
        text += "[drop z]"


def check_words(test, part, parameters):
    kind, _, *more = part
    test.assertIn(kind, ("number", "variable", "literal", "step", "join"))
    if kind == "variable":
        test.assertIn(more[0], parameters)
    elif kind == "literal":
        for _, inner in more[0]:
            check_words(test, inner, parameters)
    elif kind == "join":
        test.assertIn(more[0], "|-&")
        check_words(test, more[1], parameters)
        check_words(test, more[2], parameters)
    elif kind == "step":
        test.assertIn(more[0], (".", "put", "drop", "only"))
        for inner in (more[1], more[3]):
            if inner is not None:
                check_words(test, inner, parameters)


class TestTooLarge(unittest.TestCase):

    def assert_large(self, text):
        program = read(text)
        for call in (lambda: cases(program, "f"), lambda: case_of(program, "f", *[0] * len(program.parameters("f")))):
            with self.assertRaises(TooLarge) as caught:
                call()
            self.assertEqual(caught.exception.name, "f")

    def test_200_and_201_cases(self):
        self.assertEqual(len(cases(read(CASES_200), "f")), 200)
        self.assert_large(CASES_201)
        self.assertEqual(len(cases(read(CASES_201.replace(".a.a", ".a", 1)), "f")), 195)

    def test_very_many_cases(self):
        self.assert_large("def f(p) = " + "".join(f"let x = if p has {name} then 1 else 2 in " for name in "abcdefgh") + "x")

    def test_another_function_is_not_too_large(self):
        self.assertEqual(len(cases(read(CASES_201 + "\ndef g(p) = p.a"), "g")), 3)
        self.assert_large(CASES_201 + "\ndef g(p) = p.a")

    def test_six_and_seven_paths(self):
        six = "p + q + r + s + p.a + q.b"
        self.assertGreater(len(cases(read(six), "f")), 6)
        self.assert_large(six + " + r.c")
        self.assert_large("(p | q | r | s) + (p.a | q.a | r.a)")
        self.assertGreater(len(cases(read("(p | q | r | s) + (p.a | q.a) + (s - p.a)"), "f")), 6)

    def test_paths_count_also_if_the_answer_follows(self):
        self.assertGreater(len(cases(read("(p | q | r | s)[only] + (p.a | q.a)"), "f")), 6)
        self.assert_large("(p | q | r | s)[only] + (p.a | q.a | r.a)")
        self.assert_large("(p | q | r | s | p.a | q.a | r.a) + {}")

    def test_paths_of_several_joins_count_together(self):
        self.assert_large("let x = p + q in let x = r + s in p.a + q.b + r.c")
        self.assertGreater(len(cases(read("let x = p + q in let x = r + s in p.a + q.b + r"), "f")), 6)

    def test_paths_of_different_runs_do_not_count_together(self):
        many = "p + q + r + s + p.a + q.b + r.c"
        self.assertGreater(len(cases(read("if s is record then p.a + p.b + q.a else r.a + r.b + q.b + p.b"), "f")), 6)
        self.assertEqual(len(cases(read(f"if {{}} has a then {many} else 1"), "f")), 1)
        self.assertEqual(len(cases(read(f"let x = 1.a in {many}"), "f")), 1)
        # Runs of p + q end there if both have the name a.
        self.assertGreater(len(cases(read("p + q + r + s + p.a + q.a + r.a"), "f")), 6)


class TestAgainstTheModel(unittest.TestCase):

    def check(self, text, most):
        """Compares all cases with those among all worlds; returns how many there are."""
        program = Program.read(text)
        name = program.names[-1]
        runner = model.Runner(model.parse(text))
        found = cases(program, name)
        groups = model.grouped(runner, name, model.worlds([(runner, name)], most))
        self.assertEqual([case.facts for case in found], [group.facts for group in groups], text)
        for case, group in zip(found, groups):
            self.check_case(program, name, case, group, found)
        return len(found)

    def check_case(self, program, name, case, group, found):
        self.assertEqual(model.size(plain(case.example)), min(model.size(world) for world, _ in group.members))
        self.assertIn(case.example, case)
        if case.outcome[0] == "value":
            line = TestOutcomes.check_residual(self, program, name, case)
            again = model.Runner(model.parse(line))
        for world, expected in group.members[:40]:
            arguments = record(world)
            self.assertEqual([other for other in found if arguments in other], [case])
            self.assertEqual(case_of(program, name, *arguments).facts, case.facts)
            if case.outcome[0] == "value":
                self.assertEqual(again.run(name, world), expected)
            else:
                self.assertEqual(case.outcome, expected)

    def test_programs_by_chance(self):
        chance = random.Random(13)
        counts = []
        while len(counts) < 1200:
            try:
                counts.append(self.check(samples.definitions(chance), 2000))
            except (TooLarge, model.TooMany):
                pass
        self.assertGreater(len([count for count in counts if count > 3]), 400)

    def test_programs_by_hand(self):
        for text in ("def f(p, q, r) = (p - q) + r", "def f(p, q) = (p & q) + (p - q) + (q - p[put a = 1])",
                     "def f(p, q, r) = (p | q) + (q - r) + {a: 1}", "def f(p, q) = p.a + q.a + {a: p}",
                     "def f(p, q) = let x = p + q in (p[rename a to b] | q).b",
                     "def g(p, q) = if p has a and not q has a then p.a else q\ndef f(p, q) = g(p, q) + g(q, p)"):
            self.assertGreater(self.check(text, 20000), 2)


if __name__ == "__main__":
    unittest.main()
