"""Points 1 to 3 and 23, and what the interface says of all functions together."""

import importlib
import inspect
import random
import unittest

from growingrecords import errors
from growingrecords.cases import Case, case_of, cases
from growingrecords.comparing import alike, parting, refines, unrefined
from growingrecords.completing import completed
from growingrecords.errors import Failure, NoBranch, TooLarge, UnknownFunction, WrongArguments
from growingrecords.kinds import Kind, failing, going, taking
from growingrecords.libraries import Library
from growingrecords.programs import Program
from growingrecords.records import Record, extends
from growingrecords.reports import failures, table
from growingrecords.running import outcome, run
from growingrecords.ways import why
from tests import model, samples
from tests.samples import plain, record
from tests.test_cases import CASES_200, CASES_201

# Each file with the functions and classes that the interface lists under it, and each class with its methods.
INTERFACE = {
    "errors": {name: "" for name in ("RecordsError BadName NoField FieldThere Shared BadText TooDeep DoubleName UnknownName WrongCount "
                                     "TooLarge UnknownFunction WrongArguments Failure NoBranch Mismatch NotRefined").split()},
    "records": {"extends": "(large, small)", "Record": {
        "make": "(fields)", "of": "(cls, **fields)", "plain": "(self)", "put": "(self, name, value)", "without": "(self, *names)",
        "only": "(self, *names)", "renamed": "(self, old, new)", "paths": "(self)", "size": "", "__or__": "", "__add__": "",
        "__sub__": "", "__and__": "", "__eq__": "", "__le__": "", "__contains__": "", "__getitem__": "", "__len__": "", "__iter__": "",
        "__str__": ""}},
    "programs": {"Program": {"HEAVIEST": "", "DEEPEST": "", "read": "(text)", "parameters": "(self, name)", "written": "(self)"}},
    "running": {"run": "(program, name, *arguments)", "outcome": "(program, name, *arguments)"},
    "ways": {"why": "(program, name, *arguments)"},
    "cases": {"cases": "(program, name)", "case_of": "(program, name, *arguments)", "Case": {"__contains__": ""}},
    "kinds": {"going": "(program, name)", "failing": "(program, name, *, at=None)", "taking": "(program, name, at, *, branch)", "Kind": {
        "everything": "(program, name)", "is_empty": "", "member": "(self)", "__or__": "", "__and__": "", "__sub__": "", "__le__": "",
        "__contains__": "", "__bool__": ""}},
    "comparing": {name: "(program, first, second)" for name in ("parting", "unrefined", "alike", "refines")},
    "completing": {"completed": "(program, name, *arguments)"},
    "reports": {"failures": "(program, name)", "table": "(program, name)"},
    "libraries": {"Library": {"__init__": "(self, text)", "replace": "(self, name, body)", "replace_all": "(self, *replacements)",
                              "undo": "(self)"}},
}

GROW = "def grow(p) = if p has a then p[rename a to b] else p[add a = 1]\ndef join(p, q) = p + grow(q)"
SIX = "def f(p, q, r, s) = if p is record then p + q + r + s + p.a + q.b else p"
SEVEN = "def f(p, q, r, s) = if p is record then p + q + r + s + p.a + q.b + r.c else p"


def using_cases(program, name):
    """Calls of all functions that use the cases, each as a pair of its name and a function without parameters."""
    count = len(program.parameters(name))
    at = program.written().find("if ")
    found = [("cases", lambda: cases(program, name)), ("going", lambda: going(program, name)), ("failing", lambda: failing(program, name)),
             ("failing at", lambda: failing(program, name, at=3)), ("failures", lambda: failures(program, name)),
             ("table", lambda: table(program, name)), ("then", lambda: taking(program, name, at, branch=True)),
             ("else", lambda: taking(program, name, at, branch=False))]
    for value in (5, Record.of(), Record.of(a=1), record({"a": {"b": {}}, "z": {"a": 1}})):
        for arguments in ((value,) * count, (value, *[7] * (count - 1))):
            found.append(("case_of", lambda arguments=arguments: case_of(program, name, *arguments)))
            found.append(("completed", lambda arguments=arguments: completed(program, name, *arguments)))
    return found


def read_if_light(text):
    """A list with the program of a text in its written form, empty if it is too heavy."""
    try:
        return [Program.read(text)]
    except TooLarge:
        return []


class TestInterface(unittest.TestCase):

    def test_all_is_defined_where_it_is_listed(self):
        for file, listed in INTERFACE.items():
            module = importlib.import_module("growingrecords." + file)
            for name, told in listed.items():
                found = getattr(module, name)
                self.assertEqual(found.__module__, module.__name__)
                if isinstance(told, dict):
                    for method, parameters in told.items():
                        self.assertIn(method, vars(found), name)
                        if parameters:
                            method = vars(found)[method]
                            method = getattr(method, "__func__", method)
                            self.assertEqual(str(inspect.signature(method)), parameters)
                elif told:
                    self.assertEqual(str(inspect.signature(found)), told)

    def test_all_errors_stand_directly_under_the_first_one(self):
        for name in INTERFACE["errors"]:
            base = ValueError if name == "RecordsError" else errors.RecordsError
            self.assertEqual(getattr(errors, name).__bases__, (base,))

    def test_arguments_by_name(self):
        p = Record.make(fields={"a": 5})
        self.assertIs(extends(small=p, large=p.put(value=1, name="b")), True)
        self.assertEqual(p.renamed(new="c", old="a"), Record.of(c=5))
        program = Program.read(text=GROW)
        self.assertEqual(program.parameters(name="join"), ("p", "q"))
        self.assertEqual(len(cases(name="grow", program=program)), 4)
        none = Program.read(text="def f() = {a: 1}\ndef g() = 1.a")
        self.assertEqual(run(name="f", program=none), Record.of(a=1))
        self.assertEqual(outcome(name="f", program=none), ("value", Record.of(a=1)))
        self.assertIsNone(why(name="f", program=none))
        self.assertEqual(case_of(name="f", program=none).facts, ())
        self.assertEqual(completed(name="f", program=none), ())
        self.assertTrue(going(name="f", program=none) <= Kind.everything(name="f", program=none))
        self.assertTrue(failing(at=33, name="g", program=none) | failing(name="g", program=none))
        self.assertTrue(taking(branch=True, at=14, name="grow", program=program))
        self.assertEqual(parting(second="g", first="f", program=none), ())
        self.assertEqual(unrefined(second="g", first="f", program=none), ())
        self.assertIs(alike(second="g", first="f", program=none), False)
        self.assertIs(refines(second="f", first="g", program=none), True)
        self.assertEqual(failures(name="f", program=none), [])
        self.assertEqual(table(name="g", program=none)[-1], "never goes well")
        library = Library(text=GROW)
        library.replace(body="p + grow(q) | {}", name="join")
        self.assertTrue(library.undo())


class TestWithoutParameters(unittest.TestCase):

    def test_the_only_tuple_is_empty(self):
        program = Program.read("def f() = {a: 1}\ndef g() = 1.a\ndef h() = {a: 2}")
        self.assertEqual([case.example for case in (*cases(program, "f"), *cases(program, "g"))], [(), ()])
        self.assertEqual(going(program, "f").member(), ())
        self.assertIsNone(going(program, "g").member())
        self.assertEqual(completed(program, "f"), ())
        self.assertIsNone(completed(program, "g"))
        for second in "gh":
            self.assertEqual(parting(program, "f", second), ())
            self.assertEqual(unrefined(program, "f", second), ())
        self.assertIsNone(unrefined(program, "g", "f"))
        library = Library("def f() = {a: 1}")
        with self.assertRaises(errors.NotRefined) as caught:
            library.replace("f", "{a: 2}")
        self.assertEqual(caught.exception.arguments, ())


class TestTooLarge(unittest.TestCase):
    """Point 23, and the errors that come before it."""

    def test_200_cases_and_six_paths(self):
        for text in (CASES_200, SIX):
            program = Program.read(text)
            for name, call in using_cases(program, "f"):
                with self.subTest(name):
                    call()

    def test_201_cases_and_seven_paths(self):
        for text in (CASES_201, SEVEN, SEVEN.replace("+ r.c", "+ r[only].c | {}").replace("r[only].c", "(r.c)[only]")):
            program = Program.read(text)
            for name, call in using_cases(program, "f"):
                for _ in range(2):
                    with self.subTest(name), self.assertRaises(TooLarge) as caught:
                        call()
                    self.assertEqual(caught.exception.name, "f")
            everything = Kind.everything(program, "f")
            self.assertIn((5,) * everything.count, everything)
            self.assertEqual(outcome(program, "f", *[5] * everything.count)[0], "failure" if text == CASES_201 else "value")

    def test_errors_that_come_before(self):
        for text in (CASES_200, CASES_201, SIX, SEVEN):
            program = Program.read(text)
            count = len(program.parameters("f"))
            for function in (cases, going, failing, failures, table, Kind.everything, lambda *row: taking(*row, 1, branch=True)):
                self.assert_unknown(function, program)
            for function in (case_of, completed, run, outcome, why):
                for many in range(6):
                    self.assert_unknown(lambda *row: function(*row, *[5] * many), program)
                    if many != count:
                        with self.assertRaises(WrongArguments) as caught:
                            function(program, "f", *[5] * many)
                        self.assertEqual(caught.exception.name, "f")
            for at in (-1, 0, 1, 10 ** 5):
                with self.assertRaises(NoBranch) as caught:
                    taking(program, "f", at, branch=True)
                self.assertEqual(caught.exception.at, at)

    def assert_unknown(self, call, program):
        with self.assertRaises(UnknownFunction) as caught:
            call(program, "g")
        self.assertEqual(caught.exception.name, "g")

    def test_other_functions_of_the_program_are_not_too_large(self):
        program = Program.read(SEVEN + "\ndef g(p) = if p has a then p.a else p.b")
        for _, call in using_cases(program, "g"):
            call()


class TestNothingChanges(unittest.TestCase):

    def test_what_is_returned_is_new(self):
        program = Program.read(GROW)
        p = record({"a": {"b": 1}})
        for call in (lambda: cases(program, "grow"), lambda: failures(program, "grow"), lambda: table(program, "grow"),
                     lambda: p.plain(), lambda: list(p.paths())):
            found = call()
            before = len(found)
            self.assertGreater(before, 0)
            found.clear()
            self.assertEqual(len(call()), before)
        inner = p.plain()
        inner["a"]["b"] = 2
        self.assertEqual(p.plain(), {"a": {"b": 1}})

    def test_arguments_and_programs_do_not_change(self):
        chance = random.Random(2)
        for program in [one for _ in range(100) for one in read_if_light(samples.definitions(chance, 10))]:
            name = program.names[-1]
            arguments = record(tuple(chance.choice([5, {}, {"a": {}}, {"a": {"b": 1}, "z": {}}]) for _ in program.parameters(name)))
            before = [str(value) for value in arguments]

            def told():
                try:
                    found = cases(program, name)
                    return (program.written(), program.names, program.mentioned, [case.facts for case in found],
                            [case.outcome for case in found], [case.example for case in found], failures(program, name),
                            outcome(program, name, *arguments), why(program, name, *arguments), completed(program, name, *arguments),
                            arguments in going(program, name), parting(program, name, name), case_of(program, name, *arguments).facts)
                except TooLarge:
                    return None

            self.assertEqual(told(), told())
            self.assertEqual([str(value) for value in arguments], before)

    def test_two_programs_of_one_text_answer_alike(self):
        chance = random.Random(3)
        for one in [one for _ in range(100) for one in read_if_light(samples.definitions(chance, 10))]:
            two = Program.read(one.written())
            name = one.names[-1]
            failures(one, name)
            for call in (failures, table, lambda *row: [case.outcome for case in cases(*row)]):
                self.assertEqual(call(one, name), call(two, name))


class TestAnswersTogether(unittest.TestCase):
    """Point 3: what the package tells of a function in several ways is the same."""

    def check(self, text):
        program = Program.read(text)
        name = program.names[-1]
        found = cases(program, name)
        good, bad = going(program, name), failing(program, name)
        everything = Kind.everything(program, name)
        self.assertTrue(everything <= good | bad)
        self.assertTrue((good & bad).is_empty)
        self.assertEqual(bool(bad), failures(program, name) != [])
        self.assertEqual(bool(good), table(program, name)[-1] != "never goes well")
        for case in found:
            self.assertIsInstance(case, Case)
            self.check_example(program, name, case, good)
        for kind, at, calls, missing, least in failures(program, name):
            place = failing(program, name, at=at)
            same = [case.example for case in found if case.outcome == ("failure", kind, at, calls, missing)]
            self.assertEqual(min(model.size(plain(example)) for example in same), least)
            self.assertTrue(all(example in place for example in same))
        self.assertTrue(alike(program, name, name))

    def check_example(self, program, name, case, good):
        example = case.example
        self.assertEqual(case_of(program, name, *example).facts, case.facts)
        filled = completed(program, name, *example)
        if case.outcome[0] == "value":
            self.assertIn(example, good)
            self.assertIsNone(why(program, name, *example))
            self.assertEqual(filled, example)
            head = f"def {name}({', '.join(program.parameters(name))}) = "
            self.assertEqual(run(Program.read(head + case.outcome[1]), name, *example), run(program, name, *example))
            return
        self.assertNotIn(example, good)
        self.assertIsInstance(why(program, name, *example), tuple)
        with self.assertRaises(Failure) as caught:
            run(program, name, *example)
        failure = caught.exception
        self.assertEqual(case.outcome[1:], (failure.kind, failure.at, failure.calls, failure.name))
        if filled is not None:
            self.assertIn(filled, good)
            self.assertTrue(all(extends(large, small) for large, small in zip(filled, example)))

    def test_programs_by_chance(self):
        chance = random.Random(1)
        done = 0
        while done < 150:
            try:
                self.check(samples.definitions(chance, 12))
                done += 1
            except TooLarge:
                pass

    def test_any_further_fields(self):
        """Fields that the program does not mention, and what stands in them, make no difference but for `+`."""
        text = "def f(p, q) = if p has a then (p - q)[put b = p.a] else p + q"
        program = Program.read(text)
        more = {"z": {"a": {"b": 1}, "y": 2}, "abcdefghijklmnopqrstuvwxyzabcd": -5}
        for given in (({"a": 1}, {}), ({}, {"a": 1}), ({"b": 1}, {"b": 2}), ({"a": {}}, {"a": {}}), ({}, {})):
            first = case_of(program, "f", *record(given))
            for wide in ((given[0] | more, given[1]), (given[0], given[1] | more)):
                self.assertEqual(case_of(program, "f", *record(wide)).outcome, first.outcome)
                self.assertIn(record(wide), first)
        both = record((more, more))
        plus = text.find("+")
        self.assertEqual(outcome(program, "f", *both), ("failure", "shared", plus, (), None))
        self.assertIn(both, failing(program, "f", at=plus))
        self.assertEqual(plain(completed(program, "f", *both)), ({**more, "a": 0}, more))


if __name__ == "__main__":
    unittest.main()
