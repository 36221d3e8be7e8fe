"""Programs by chance (the same ones in each run) against the other means of tests/oracle.py."""

import random
import unittest

from growingrecords import errors
from growingrecords.programs import Program
from tests import oracle


def told(text):
    """The class and the attributes of the error that reading raises, or the program."""
    try:
        return Program.read(text)
    except errors.RecordsError as error:
        return (type(error).__name__, vars(error))


def made(chance, wrong):
    """Definitions by chance: tuples of name, parameters and body."""
    found = []
    for place in range(chance.randrange(1, 4)):
        name = "fgh"[place]
        parameters = ["p", "q", "r"][:chance.randrange(4)]
        if chance.random() < wrong:
            parameters.append("p")
        if chance.random() < wrong:
            name = "f"
        maker = oracle.Maker(chance, [(one, len(names)) for one, names, _ in found], wrong)
        found.append((name, parameters, maker.expression(chance.randrange(20), parameters)))
    return found


def written(chance, definitions):
    writer = oracle.Writer(chance)
    for definition in definitions:
        writer.definition(*definition)
    return writer


def first_heavy(definitions):
    functions = {}
    for name, parameters, body in definitions:
        functions[name] = (parameters, body)
        if oracle.weight(body, dict.fromkeys(parameters, 1), functions) > 80:
            return name
    return None


class TestRandomPrograms(unittest.TestCase):

    def check_right(self, chance):
        definitions = made(chance, 0.0)
        text, _ = written(chance, definitions).text()
        result = told(text)
        heavy = first_heavy(definitions)
        if heavy is not None:
            self.assertEqual(result, ("TooLarge", {"name": heavy}), text)
            return False
        form = "\n".join(f"def {name}({', '.join(names)}) = {oracle.form(body)}" for name, names, body in definitions)
        self.assertEqual(result.written(), form)
        self.assertEqual(Program.read(form).written(), form)
        self.assertEqual(result.names, tuple(name for name, _, _ in definitions))
        self.assertEqual([result.parameters(name) for name in result.names], [tuple(names) for _, names, _ in definitions])
        names = oracle.mentioned([body for _, _, body in definitions])
        self.assertEqual(result.mentioned, tuple(sorted(names)))
        self.assertEqual(Program.read(form).mentioned, result.mentioned)
        return True

    def test_written_form_names_and_weights(self):
        chance = random.Random(1)
        right = [self.check_right(chance) for _ in range(1500)]
        self.assertGreater(right.count(True), 700)
        self.assertGreater(right.count(False), 50)

    def test_wrong_names(self):
        chance = random.Random(2)
        seen = {}
        for _ in range(1500):
            definitions = made(chance, 0.07)
            writer = written(chance, definitions)
            text, starts = writer.text()
            result = told(text)
            if not writer.faults:
                self.assertTrue(isinstance(result, Program) or result[0] == "TooLarge", text)
                continue
            place, kind, name = min(writer.faults)
            seen[kind] = seen.get(kind, 0) + 1
            self.assertEqual(result, (kind, {"name": name, "at": starts[place]}), text)
        self.assertGreater(min(seen.values()), 30)
        self.assertEqual(set(seen), {"DoubleName", "UnknownName", "WrongCount"})

    def test_wrong_texts(self):
        chance = random.Random(3)
        other = [*oracle.RESERVED, *"(){}[],:=.|+-&", "p", "q", "f", "a", "b", "0", "17", "007", "ninechars", "A", ";", "1" * 31, "_"]
        wrong = 0
        for _ in range(700):
            writer = written(chance, made(chance, 0.0))
            del writer.words[60:]
            for _ in range(chance.choice([0, 1, 1, 1, 2])):
                place = chance.randrange(len(writer.words))
                change = chance.choice(["put", "drop", "insert", "cut"])
                if change == "cut":
                    del writer.words[place + 1:]
                else:
                    writer.words[place:place + (change != "insert")] = [] if change == "drop" else [chance.choice(other)]
                if not writer.words:
                    writer.words.append("def")
            text, _ = writer.text()
            at = oracle.first_wrong(text)
            result = told(text)
            if at is None:
                self.assertTrue(isinstance(result, Program) or result[0] not in ("BadText", "TooDeep"), text)
            else:
                wrong += 1
                self.assertEqual(result, ("BadText", {"at": at}), text)
        self.assertGreater(wrong, 300)


if __name__ == "__main__":
    unittest.main()
