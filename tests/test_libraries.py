"""Points 31 and 32: libraries."""

import inspect
import random
import unittest

from growingrecords import libraries
from growingrecords.cases import cases
from growingrecords.comparing import refines
from growingrecords.errors import (
    BadText, DoubleName, Mismatch, NotRefined, RecordsError, TooDeep, TooLarge, UnknownFunction, UnknownName, WrongCount,
)
from growingrecords.libraries import Library
from growingrecords.programs import Program
from growingrecords.running import outcome
from tests import model, oracle, samples
from tests.samples import plain, record

TEXT = "def get(p) = p.a\ndef both(p, q) = get(p) + get(q)\ndef none() = {a: {}}\ndef last(p) = both(p, none())[put b = get(p)]"
HEAD = "def get(p) = "


def body_at(library, name):
    """Where the body of a function begins in the text that a replacement makes."""
    lines = library.program.written().split("\n")
    index = library.program.names.index(name)
    return sum(len(line) + 1 for line in lines[:index]) + lines[index].index(" = ") + 3


class LibraryCase(unittest.TestCase):

    def assert_keeps(self, library, error, *replacements):
        """The replacements raise the error, by `replace` if there is only one, and nothing is changed; returns the error."""
        program, written = library.program, library.program.written()
        caught = []
        for _ in range(2):
            with self.assertRaises(error) as context:
                library.replace_all(*replacements)
            caught.append(context.exception)
        if len(replacements) == 1:
            with self.assertRaises(error) as context:
                library.replace(*replacements[0])
            caught.append(context.exception)
        self.assertIs(library.program, program)
        self.assertEqual(library.program.written(), written)
        if error is not NotRefined:
            self.assertEqual(len({str(vars(one)) for one in caught}), 1)
        return caught[-1]


class TestInterface(LibraryCase):

    def test_all_are_defined_in_their_file(self):
        self.assertEqual(inspect.getmodule(Library), libraries)
        for name, told in {"__init__": "(self, text)", "replace": "(self, name, body)", "replace_all": "(self, *replacements)",
                           "undo": "(self)"}.items():
            self.assertEqual(str(inspect.signature(vars(Library)[name])), told)

    def test_arguments_by_name_and_kinds_of_values(self):
        library = Library(text=TEXT)
        self.assertIsInstance(library.program, Program)
        self.assertIn("program", vars(library))
        self.assertIsNone(library.replace(body="p.a", name="get"))
        self.assertEqual(library.replace_all(), 0)
        self.assertEqual(library.replace_all(("get", "p.a"), ("none", "{a: {}}")), 2)
        self.assertIs(library.undo(), True)
        self.assertIs(library.undo(), True)
        self.assertIs(library.undo(), False)

    def test_what_reading_raises(self):
        for text, error in (("def f(p) = ", BadText), ("", BadText), ("def f(p) = " + "(" * 100 + "p" + ")" * 100, TooDeep),
                            ("def f(p, p) = p", DoubleName), ("def f(p) = q", UnknownName), ("def f(p) = p def g() = f()", WrongCount),
                            ("def f(p) = p" + ".a" * 80, TooLarge)):
            with self.assertRaises(error) as caught:
                Library(text)
            with self.assertRaises(error) as again:
                Program.read(text)
            self.assertEqual(vars(caught.exception), vars(again.exception))

    def test_a_text_in_any_form(self):
        text = " def  f ( p )=( p ) . a\n\n def g(p)=((f(p)))"
        library = Library(text)
        self.assertEqual(outcome(library.program, "g", 1), ("failure", "record", text.find("."), (text.find("f(p)"),), None))
        self.assertEqual(library.program.written(), "def f(p) = p.a\ndef g(p) = f(p)")


class TestReplace(LibraryCase):

    def test_a_replacement_that_refines(self):
        library = Library(TEXT)
        library.replace("get", "if p has a then p.a else {}")
        self.assertEqual(library.program.written(), TEXT.replace("p.a", "if p has a then p.a else {}"))
        self.assertEqual(outcome(library.program, "last", record({}))[0], "value")
        library.replace("both", "get(p) | get(q)")
        self.assertEqual(outcome(library.program, "both", record({"a": {"b": 1}}), record({"a": {"b": 2}})), ("value", record({"b": 2})))
        library.replace("last", "if not p is record then p else both(p, none())[put b = get(p)]")
        self.assertEqual(outcome(library.program, "last", 5), ("value", 5))

    def test_a_replacement_that_is_alike(self):
        library = Library("def f(p, q) = p + q")
        for body in ("q + p", "let x = p + q in (p - q) + q", "p + q", "p+q|{}"):
            before = library.program
            library.replace("f", body)
            self.assertIsNot(library.program, before)
        self.assertEqual(library.program.written(), "def f(p, q) = p + q | {}")

    def check_not_refined(self, text, name, body):
        library = Library(text)
        new = library.program.written().split("\n")
        index = library.program.names.index(name)
        new[index] = new[index][:new[index].index(" = ") + 3] + body
        found = self.assert_keeps(library, NotRefined, (name, body)).arguments
        self.assertIsInstance(found, tuple)
        self.assertEqual(len(found), len(library.program.parameters(name)))
        before = outcome(library.program, name, *found)
        self.assertEqual(before[0], "value")
        self.assertNotEqual(outcome(Program.read("\n".join(new)), name, *found), before)
        self.assertFalse(library.undo())

    def test_not_refined(self):
        for name, body in (("get", "p.b"), ("get", "p"), ("get", "1.a"), ("get", "p.a | {}"), ("get", "if p has b then p.b else p.a"),
                           ("both", "get(p)"), ("both", "get(q) + get(p)[drop c]"), ("none", "{}"), ("none", "{a: 1}"), ("none", "0"), ("none", "1.a"),
                           ("last", "both(p, none())"), ("last", "p"), ("both", "get(p) + get(q)[add zz = 1]")):
            self.check_not_refined(TEXT, name, body)

    def test_not_refined_in_names_that_only_one_program_mentions(self):
        self.check_not_refined("def f(p) = p", "f", "if p is record then p[drop x] else p")
        self.check_not_refined("def f(p) = p[drop x, drop y]", "f", "p[drop x]")
        self.check_not_refined("def f(p) = p[drop x]", "f", "p[drop y]")
        self.check_not_refined("def f(p, q) = p + q", "f", "p + q[drop x]")
        self.check_not_refined("def f(p, q) = p + q[drop x]", "f", "p + q[drop y]")
        self.check_not_refined("def f(p) = p[only a]", "f", "p[only b]")

    def test_refined_in_names_that_only_one_program_mentions(self):
        library = Library("def f(p, q) = p + q[drop x]")
        library.replace("f", "q[drop x] + p")
        library.replace("f", "p | q[drop x]")
        library.replace("f", "if p is record and q is record then (if p has y then p | q[drop x] else p | q[drop x]) else p")
        library.replace("f", "if p is record and q is record then p | q[drop x] else p")
        self.assertEqual(library.program.mentioned, ("x",))

    def test_what_was_asked_of_a_program_before_makes_no_difference(self):
        """A comparison counts the names of both programs, all other questions those of the program alone."""
        library = Library("def f(p, q) = p + q")
        first = library.program
        before = [case.facts for case in cases(first, "f")]
        self.assert_keeps(library, NotRefined, ("f", "p[cut x] + q"))
        self.assertEqual([case.facts for case in cases(first, "f")], before)
        library.replace("f", "p[drop x] | p + q")
        self.assertEqual([case.facts for case in cases(first, "f")], before)
        self.assertGreater(len(cases(library.program, "f")), len(before))
        self.assert_keeps(library, NotRefined, ("f", "p[drop x] + q"))
        library.replace("f", "p | q[drop y] | q")

    def test_unknown_functions_go_first(self):
        library = Library(TEXT)
        for body in ("p.a", ")", "q", ""):
            self.assertEqual(self.assert_keeps(library, UnknownFunction, ("got", body)).name, "got")

    def test_mismatch(self):
        library = Library(TEXT)
        for name, body in (("get", "p.a def extra() = 1"), ("get", "p.b\ndef extra(p) = p"), ("last", "p def more(q) = q"),
                           ("none", "{a: {}} def a() = 1 def b() = 2"), ("get", "p.a " + "def x(p) = p")):
            self.assert_keeps(library, Mismatch, (name, body))
        self.assertFalse(library.undo())


class TestErrorsOfReading(LibraryCase):

    def assert_wrong(self, error, name, body, offset, told=None, text=TEXT):
        """`offset` is the position in the new text, counted from the beginning of the body."""
        library = Library(text)
        found = self.assert_keeps(library, error, (name, body))
        self.assertEqual(found.at, body_at(library, name) + offset, (name, body))
        if told is not None:
            self.assertEqual(found.name, told)

    def test_bad_texts(self):
        for name, body, offset in (("get", "p.a)", 3), ("get", "", 1), ("get", "p.", 3), ("get", "  p [ cut a ", 13), ("both", "p q", 2),
                                   ("last", "", 0), ("last", "p |", 3), ("last", "\n", 1), ("get", "p.a;", 3), ("get", "{a: 1", 6),
                                   ("none", "let x = 1", 10), ("get", "p.a def", 8), ("get", "p.a def extra", 14), ("get", "(", 2),
                                   ("get", "p.abcdefghi", 2), ("get", "if p has a then p.a", 20), ("both", "get(p", 6), ("last", "get(p", 5)):
            self.assert_wrong(BadText, name, body, offset)

    def test_too_deep(self):
        self.assert_wrong(TooDeep, "get", "(" * 100 + "p" + ")" * 100, 100)
        self.assert_wrong(TooDeep, "both", "{a: " + "(" * 99 + ")", 103)

    def test_wrong_names(self):
        self.assert_wrong(DoubleName, "get", "{a: 1, a: 2}", 7, "a")
        self.assert_wrong(DoubleName, "get", "p.a def get(p) = p", 8, "get")
        self.assert_wrong(UnknownName, "get", "q.a", 0, "q")
        self.assert_wrong(UnknownName, "both", "p + x | q", 4, "x")
        self.assert_wrong(WrongCount, "both", "get(p) + get(p, q)", 9, "get")

    def test_functions_that_come_later(self):
        self.assert_wrong(UnknownName, "get", "both(p, p)", 0, "both")
        self.assert_wrong(UnknownName, "get", "{a: get(p)}", 4, "get")
        self.assert_wrong(UnknownName, "none", "last({})", 0, "last")
        library = Library(TEXT)
        library.replace("none", "let x = both({a: {}}, {a: {}}) in {a: {}}")

    def test_a_definition_that_comes_twice(self):
        """The present definition stands behind the one that the body brings with it."""
        library = Library(TEXT)
        found = self.assert_keeps(library, DoubleName, ("get", "p.a def none() = {a: {}}"))
        new = TEXT.replace("p.a", "p.a def none() = {a: {}}", 1)
        self.assertEqual((found.name, found.at), ("none", new.rfind("none() = {a: {}}")))

    def test_too_heavy(self):
        library = Library(TEXT)
        self.assertEqual(self.assert_keeps(library, TooLarge, ("get", "let x = p" + ".a" * 79 + " in p.a")).name, "get")
        self.assertEqual(self.assert_keeps(library, TooLarge, ("none", "{}" + "[put b = {}]" * 40)).name, "none")
        # The weight of `get` counts three times in `last`, of which its own limit is still far away.
        heavy = "let x = {} in " * 20 + "p.a"
        Library("def get(p) = p.a").replace("get", heavy)
        self.assertEqual(self.assert_keeps(library, TooLarge, ("get", heavy)).name, "both")

    def test_reading_goes_before_the_comparison(self):
        self.assert_wrong(UnknownName, "get", "p | q", 4)
        library = Library(TEXT)
        self.assert_keeps(library, TooLarge, ("get", "p.b" + "[drop a]" * 80))
        self.assert_keeps(library, UnknownName, ("get", "x def more() = 1"))
        self.assert_keeps(library, Mismatch, ("get", "p.b def more() = 1"))


class TestPositions(LibraryCase):

    TEXT = "def f(p)=p . a   def g( p , q )=f( p )|((q))"

    def test_before_a_replacement(self):
        library = Library(self.TEXT)
        self.assertEqual(outcome(library.program, "g", 1, 2), ("failure", "record", self.TEXT.find("."), (self.TEXT.find("f( p )"),), None))

    def test_behind_a_replacement_and_an_undo(self):
        library = Library(self.TEXT)
        library.replace("f", "  (p)\n. a")
        text = "def f(p) =   (p)\n. a\ndef g(p, q) = f(p) | q"
        self.assertEqual(outcome(library.program, "g", 1, 2), ("failure", "record", text.find("."), (text.find("f(p) |"),), None))
        self.assertEqual(outcome(library.program, "g", record({"a": {}}), 2), ("failure", "record", text.find("|"), (), None))
        library.replace("g", "if q is record then f(p)|q else f(p)")
        text = "def f(p) = p.a\ndef g(p, q) = if q is record then f(p)|q else f(p)"
        self.assertEqual(outcome(library.program, "g", record({"a": 1}), record({})), ("failure", "record", text.find("|"), (), None))
        self.assertEqual(outcome(library.program, "g", 1, 2), ("failure", "record", text.find("."), (text.rfind("f(p)"),), None))
        library.undo()
        text = "def f(p) =   (p)\n. a\ndef g(p, q) = f(p) | q"
        self.assertEqual(outcome(library.program, "g", record({"a": {}}), 2), ("failure", "record", text.find("|"), (), None))
        library.undo()
        self.test_before_a_replacement()
        self.assertEqual(outcome(library.program, "g", record({"a": {}}), 2), ("failure", "record", self.TEXT.find("|"), (), None))

    def test_errors_in_a_text_that_is_not_in_the_written_form(self):
        library = Library(self.TEXT)
        found = self.assert_keeps(library, UnknownName, ("g", "f(p) | x"))
        self.assertEqual(found.at, "def f(p) = p.a\ndef g(p, q) = f(p) | x".find("x"))

    def test_texts_that_are_longer_than_texts_that_are_read(self):
        library = Library("def f(p) = p.a\ndef g(p) = f(p)")
        library.replace("f", " " * 9000 + "p.a")
        self.assertEqual(outcome(library.program, "g", 1), ("failure", "record", 9012, (9026,), None))
        library.replace("g", "f(p)")
        self.assertEqual(outcome(library.program, "g", 1), ("failure", "record", 12, (26,), None))


class TestReplaceAll(LibraryCase):

    def test_none(self):
        library = Library(TEXT)
        program = library.program
        self.assertEqual(library.replace_all(), 0)
        self.assertIs(library.program, program)
        self.assertFalse(library.undo())
        library.replace("get", "let x = p[cut a] in p.a")
        self.assertEqual(library.replace_all(), 0)
        self.assertTrue(library.undo())
        self.assertIs(library.program, program)

    def test_several(self):
        library = Library(TEXT)
        program = library.program
        rows = [("get", "if p has a then p.a else {}"), ("both", "get(p) | get(q)"), ("get", "if p is record and p has a then p.a else {}")]
        self.assertEqual(library.replace_all(*rows), 3)
        self.assertEqual(library.program.written(), TEXT.replace("p.a", rows[2][1]).replace("+", "|"))
        self.assertEqual(outcome(library.program, "both", 1, 2), ("value", record({})))
        self.assertTrue(library.undo())
        self.assertIs(library.program, program)
        self.assertFalse(library.undo())

    def test_a_wrong_one_among_them(self):
        library = Library(TEXT)
        good = ("get", "if p has a then p.a else {}")
        for wrong, error in ((("both", "get(p)"), NotRefined), (("both", "p |"), BadText), (("but", "p"), UnknownFunction),
                             (("get", "p.a"), NotRefined), (("none", "{a: {}} def x() = 1"), Mismatch), (("none", "x"), UnknownName),
                             (("last", "p" + ".a" * 90), TooLarge)):
            self.assert_keeps(library, error, good, wrong)
            self.assert_keeps(library, error, good, good, wrong, good)
            if error is not NotRefined or wrong[0] != "get":
                self.assert_keeps(library, error, wrong, good)
        self.assertFalse(library.undo())
        self.assertEqual(library.replace_all(good), 1)

    def test_each_is_compared_with_the_one_before_it(self):
        library = Library("def f(p) = p.a")
        self.assertEqual(library.replace_all(("f", "if p has a then p.a else p.b"), ("f", "if p has a then p.a else if p has b then p.b else 1")), 2)
        # Both refine p.a, but not one another.
        self.assert_keeps(Library("def f(p) = p.a"), NotRefined, ("f", "if p has a then p.a else 1"), ("f", "if p has a then p.a else 2"))

    def test_positions_of_errors_are_those_of_the_text_so_far(self):
        library = Library("def f(p) = p.a\ndef g(p) = f(p)")
        found = self.assert_keeps(library, UnknownName, ("f", "p  .  a"), ("g", "f(x)"))
        self.assertEqual(found.at, "def f(p) = p.a\ndef g(p) = f(x)".find("x"))


class TestUndo(LibraryCase):

    def test_until_there_is_nothing_to_take_back(self):
        library = Library(TEXT)
        programs = [library.program]
        for index in range(20):
            if index % 3 == 0:
                library.replace_all(("get", "p.a"), ("none", "{a: {}}"))
            else:
                library.replace(("get", "none")[index % 2], ("p.a", "{a: {}}")[index % 2])
            programs.append(library.program)
        while len(programs) > 1:
            self.assertIs(library.program, programs.pop())
            self.assertIs(library.undo(), True)
        for _ in range(3):
            self.assertIs(library.undo(), False)
            self.assertIs(library.program, programs[0])

    def test_what_raised_or_made_nothing_is_not_taken_back(self):
        library = Library(TEXT)
        first = library.program
        library.replace("get", "p[drop b].a")
        for call in (lambda: library.replace("get", "p.b"), lambda: library.replace("x", "1"), lambda: library.replace("get", "("),
                     lambda: library.replace_all(("get", "p.a"), ("get", "p.b")), lambda: library.replace("get", "p.a def z() = 1")):
            with self.assertRaises(RecordsError):
                call()
        library.replace_all()
        self.assertTrue(library.undo())
        self.assertIs(library.program, first)
        self.assertFalse(library.undo())

    def test_replacements_behind_an_undo(self):
        library = Library("def f(p) = p.a")
        library.replace("f", "if p has a then p.a else 1")
        library.undo()
        library.replace("f", "if p has a then p.a else 2")
        second = library.program
        library.replace("f", "if p is record then (if p has a then p.a else 2) else 3")
        library.undo()
        self.assertIs(library.program, second)
        library.undo()
        self.assertEqual(library.program.written(), "def f(p) = p.a")
        self.assertFalse(library.undo())

    def test_two_libraries_of_one_text(self):
        one, two = Library(TEXT), Library(TEXT)
        one.replace("get", "if p has a then p.a else {}")
        self.assertEqual(two.program.written(), TEXT)
        self.assertFalse(two.undo())
        two.replace("both", "get(p) | get(q)")
        self.assertTrue(one.undo())
        self.assertEqual(one.program.written(), TEXT)
        self.assertEqual(two.program.written(), TEXT.replace("+", "|"))


class TestRefining(LibraryCase):

    def test_up_to_twelve_cases_it_is_never_too_large(self):
        library = Library("def f(p, q, r, s) = p + q + r + s")
        for body in ("s + (r + (q + p))", "p | (q + r + s)", "(p | q) | (r | s)", "p | (q | (r | s)) - {}"):
            library.replace("f", body)
        self.assert_keeps(library, NotRefined, ("f", "q | (p | (r | s))"))

    def test_too_large_tells_the_function(self):
        many = "".join(f"let x = if p has {name} then 1 else 2 in " for name in "abcdefgh") + "p"
        library = Library(f"def f(p) = p | {{}}\ndef g(p) = {many}\ndef h(p) = 1")
        for name, body in (("f", many), ("g", "p | {}")):
            try:
                library.replace(name, body)
            except TooLarge as error:
                self.assertEqual(error.name, name)
                self.assertFalse(library.undo())
            else:
                self.assertTrue(library.undo())
        library.replace("h", "1")

    def test_every_other_function_refines_its_former_self(self):
        """Random replacements, against all worlds of arguments."""
        chance = random.Random(32)
        found = {"made": 0, "not": 0, "others": 0}
        while min(found.values()) < 60:
            parameters = list("pq")[:chance.choice([1, 2])]
            body = samples.RecordMaker(chance, []).expression(chance.randrange(1, 7), parameters)
            caller = samples.RecordMaker(chance, [("f", len(parameters))]).expression(chance.randrange(2, 8), ["p", "q"])
            head = ", ".join(parameters)
            text = f"def f({head}) = {oracle.form(body)}\ndef g(p, q) = {oracle.form(caller)}"
            try:
                self.check(text, oracle.form(samples.altered(chance, body)), found)
            except (TooLarge, model.TooMany):
                pass

    def check(self, text, body, found):
        library = Library(text)
        before = model.Runner(model.parse(library.program.written()))
        lines = library.program.written().split("\n")
        new = lines[0][:lines[0].index(" = ") + 3] + body + "\n" + lines[1]
        after = model.Runner(model.parse(new))
        mentioned = sorted({*before.mentioned, *after.mentioned})
        runners = [model.Runner(model.parse(one), mentioned) for one in (library.program.written(), new)]
        worlds = {name: [model.distinct(world) for world in model.worlds([(one, name) for one in runners], 700, 1, True)] for name in "fg"}
        lost = {name: [world for world in worlds[name] if runners[0].run(name, world)[0] == "value"
                       and runners[0].run(name, world) != runners[1].run(name, world)] for name in "fg"}
        try:
            library.replace("f", body)
        except NotRefined as error:
            found["not"] += 1
            self.assertTrue(lost["f"], (text, body))
            one = runners[0].run("f", plain(error.arguments))
            self.assertEqual(one[0], "value")
            self.assertNotEqual(runners[1].run("f", plain(error.arguments)), one)
            return
        found["made"] += 1
        self.assertEqual(lost, {"f": [], "g": []}, (text, body))
        found["others"] += "f(" in lines[1]
        both = Program.read(text.replace("def f", "def e").replace("f(", "e(").replace("def g", "def h") + "\n" + new)
        self.assertTrue(refines(both, "h", "g"), (text, body))


if __name__ == "__main__":
    unittest.main()
