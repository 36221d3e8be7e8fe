"""The rules of LANGUAGE.md that a short test can see."""

import ast
import builtins
import re
import unittest
from pathlib import Path

FOLDER = Path(__file__).resolve().parent.parent / "growingrecords"
FILES = sorted(FOLDER.glob("*.py"))

BUILTINS = """len range enumerate zip min max sum abs sorted reversed int str bool list tuple dict set frozenset isinstance ord
    repr any all divmod pow getattr hasattr setattr super property staticmethod classmethod iter next map
    Exception ValueError TypeError KeyError IndexError LookupError ZeroDivisionError ArithmeticError OverflowError RuntimeError
    NotImplementedError AttributeError StopIteration NotImplemented""".split()

METHODS = """append clear copy count endswith extend find get index insert isalnum isalpha isdigit islower isspace isupper items join
    keys ljust lower lstrip partition pop remove replace reverse rfind rjust rpartition rsplit rstrip setdefault split splitlines
    startswith strip update upper values zfill bit_length add discard __init__""".split()

CHANGING = "append clear extend insert pop remove reverse setdefault update sort add discard".split()
NOWHERE = "register mro elements open input law version_info with_traceback add_note".split()
WORDS = """type typing typing_extensions enum Enum IntEnum StrEnum Flag IntFlag Generic Protocol ABC ABCMeta namedtuple NamedTuple
    TypedDict TYPE_CHECKING abstractmethod""".split()
BARRED = (ast.Global, ast.AsyncFunctionDef, ast.AsyncFor, ast.AsyncWith, ast.Await, ast.GeneratorExp, ast.Import, ast.Div)


def own(tree, kind):
    return [node for node in ast.walk(tree) if isinstance(node, kind)]


def bound_names(tree):
    """The names that a file gives a meaning: variables, parameters, functions and classes."""
    names = [node.id for node in own(tree, ast.Name) if isinstance(node.ctx, ast.Store)]
    names += [node.arg for node in own(tree, ast.arg)]
    names += [node.name for node in own(tree, ast.ExceptHandler) if node.name]
    return names + [node.name for node in own(tree, (ast.FunctionDef, ast.ClassDef))]


def is_operator(function):
    """True if the function is an operator, a property or the like, which may not change anything."""
    marks = [node.id for node in function.decorator_list if isinstance(node, ast.Name)]
    return "property" in marks or (function.name.startswith("__") and function.name != "__init__")


def is_new(value):
    """True if the value of an assignment is a list, dict or set that it makes."""
    if isinstance(value, ast.Call):
        return isinstance(value.func, ast.Name) and value.func.id in ("list", "dict", "set", "sorted")
    # No slice: where a class has `__getitem__`, square brackets may give what somebody else holds.
    return isinstance(value, (ast.List, ast.Dict, ast.Set, ast.ListComp, ast.DictComp, ast.SetComp))


def foreign_changes(function):
    """The lines in which a function changes what it has not made."""
    assigned = {}
    for node in own(function, ast.Assign):
        for target in node.targets:
            if isinstance(target, ast.Name):
                assigned.setdefault(target.id, []).append(is_new(node.value))
    safe = [name for name, kinds in assigned.items() if all(kinds)]
    if function.name == "__init__":
        safe.append("self")
    lines = []
    for node in ast.walk(function):
        if isinstance(node, (ast.Attribute, ast.Subscript)) and not isinstance(node.ctx, ast.Load):
            lines += [node.lineno] * (getattr(node.value, "id", None) not in safe)
        elif isinstance(node, ast.Call) and isinstance(node.func, ast.Attribute) and node.func.attr in CHANGING:
            lines += [node.lineno] * (getattr(node.func.value, "id", None) not in safe)
        elif isinstance(node, ast.AugAssign):
            plain = isinstance(node.target, ast.Name) and isinstance(getattr(node.value, "value", None), int)
            lines += [node.lineno] * (not plain)
    return lines


class TestLanguage(unittest.TestCase):

    def setUp(self):
        self.trees = {path.name: ast.parse(path.read_text()) for path in FILES}

    def test_files(self):
        for path in FOLDER.iterdir():
            self.assertTrue(path.name == "__pycache__" or re.fullmatch(r"[a-z_]+\.py", path.name), path)
        for path in FILES:
            text = path.read_text()
            self.assertRegex(text, r"\A[ -~\n]*\Z")
            self.assertNotIn("%", text)
            self.assertLess(len(text.splitlines()), 400, path)
            self.assertLessEqual(max(len(line) for line in text.splitlines()), 120, path)

    def test_functions_are_short(self):
        for name, tree in self.trees.items():
            for node in own(tree, ast.FunctionDef):
                self.assertLessEqual(node.end_lineno - node.lineno + 1, 40, (name, node.name))

    def test_imports(self):
        needed = {}
        for name, tree in self.trees.items():
            modules = [node.module for node in own(tree, ast.ImportFrom)]
            for module in modules:
                self.assertRegex(module, r"\Agrowingrecords\.[a-z]+\Z")
            needed[name[:-3]] = {module.split(".")[1] for module in modules}
            for node in own(tree, ast.ImportFrom):
                there = self.trees[node.module.split(".")[1] + ".py"]
                for alias in node.names:
                    self.assertIn(alias.name, bound_names(there))
                    self.assertIsNone(alias.asname)
        while needed:
            free = [name for name, others in needed.items() if not others & set(needed)]
            self.assertTrue(free, needed)
            needed = {name: others for name, others in needed.items() if name not in free}

    def test_statements_and_expressions(self):
        for name, tree in self.trees.items():
            self.assertEqual(own(tree, BARRED), [], name)

    def test_is_stands_before_constants_only(self):
        for name, tree in self.trees.items():
            for node in own(tree, ast.Compare):
                for sign, side in zip(node.ops, node.comparators):
                    if isinstance(sign, (ast.Is, ast.IsNot)):
                        self.assertIn(getattr(side, "value", 0), (None, True, False), (name, node.lineno))

    def test_builtins(self):
        for name, tree in self.trees.items():
            bound = bound_names(tree) + [alias.name for node in own(tree, ast.ImportFrom) for alias in node.names]
            methods = [node.name for group in own(tree, ast.ClassDef) for node in group.body if isinstance(node, ast.FunctionDef)]
            self.assertEqual([word for word in bound if hasattr(builtins, word) and word not in methods], [], name)
            used = {node.id for node in own(tree, ast.Name) if isinstance(node.ctx, ast.Load)} - set(bound)
            self.assertEqual(used - set(BUILTINS), set(), name)

    def test_attributes_are_assigned_somewhere(self):
        assigned = set(METHODS)
        for tree in self.trees.values():
            assigned |= {node.attr for node in own(tree, ast.Attribute) if isinstance(node.ctx, ast.Store)}
            for group in own(tree, ast.ClassDef):
                assigned |= {node.name for node in group.body if isinstance(node, ast.FunctionDef)}
                assigned |= {node.targets[0].id for node in group.body if isinstance(node, ast.Assign)}
        for name, tree in self.trees.items():
            read = {node.attr for node in own(tree, ast.Attribute)}
            self.assertEqual(read - assigned, set(), name)

    def test_methods_and_attributes_have_different_names(self):
        methods, attributes = set(), set()
        for tree in self.trees.values():
            attributes |= {node.attr for node in own(tree, ast.Attribute) if isinstance(node.ctx, ast.Store)}
            for group in own(tree, ast.ClassDef):
                methods |= {node.name for node in group.body if isinstance(node, ast.FunctionDef)}
        self.assertEqual(methods & attributes, set())

    def test_local_names_are_no_imports_and_no_classes(self):
        for name, tree in self.trees.items():
            taken = {alias.name for node in own(tree, ast.ImportFrom) for alias in node.names}
            taken |= {node.name for node in own(tree, ast.ClassDef)}
            for function in own(tree, ast.FunctionDef):
                self.assertEqual(taken & (set(bound_names(function)) - {function.name}), set(), (name, function.name))

    def run_by_operators(self):
        """The functions that operators, properties and the like run, themselves included."""
        functions, begun = {}, []
        for tree in self.trees.values():
            for node in own(tree, (ast.FunctionDef, ast.ClassDef)):
                functions.setdefault(node.name, []).append(node)
                if isinstance(node, ast.FunctionDef) and is_operator(node):
                    begun.append(node)
        seen = []
        while begun:
            node = begun.pop()
            if node in seen:
                continue
            seen.append(node)
            if isinstance(node, ast.ClassDef):
                begun.extend(inner for inner in node.body if getattr(inner, "name", "") == "__init__")
                continue
            for call in own(node, ast.Call):
                called = call.func.id if isinstance(call.func, ast.Name) else call.func.attr
                # Only error classes use `super()`, and above them is none of the package that does anything.
                if not isinstance(getattr(call.func, "value", None), ast.Call):
                    begun.extend(functions.get(called, []))
        return [node for node in seen if isinstance(node, ast.FunctionDef)]

    def test_operators_and_properties_change_nothing(self):
        """What they run assigns and modifies only what it has made itself."""
        found = self.run_by_operators()
        for node in found:
            self.assertEqual(foreign_changes(node), [], node.name)
        names = {node.name for node in found}
        self.assertLessEqual({"refined", "forked_by_others", "widened", "question_holds", "value_at", "is_empty"}, names)
        self.assertEqual(names & {"evaluate", "endings", "smallest_member", "note_row"}, set())

    def test_operators_and_properties_call_nothing_that_is_held(self):
        """No attribute has the name of a method that they call, so that it plainly is one of a builtin value."""
        called = set()
        for node in self.run_by_operators():
            called |= {call.func.attr for call in own(node, ast.Call) if isinstance(call.func, ast.Attribute)}
        attributes = {node.attr for tree in self.trees.values() for node in own(tree, ast.Attribute) if isinstance(node.ctx, ast.Store)}
        self.assertIn("append", called)
        self.assertIn("count", attributes)
        self.assertEqual(called & attributes, set())

    def test_words_that_are_not_used(self):
        for path in FILES:
            code = re.sub(r'"""(.|\n)*?"""|#.*', "", path.read_text())
            self.assertEqual([word for word in WORDS + NOWHERE if re.search(rf"\b{word}\b", code)], [], path)

    def test_sorting_takes_plain_strings(self):
        """Records have an order that is none for sorting, so what is sorted must plainly be something else."""
        for name, tree in self.trees.items():
            for node in own(tree, ast.Call):
                if isinstance(node.func, ast.Name) and node.func.id in ("sorted", "min", "max"):
                    told = node.args[0]
                    plain = isinstance(told, ast.ListComp) and isinstance(told.elt, ast.Call) and told.elt.func.id in ("str", "len", "int")
                    self.assertTrue(plain or len(node.args) == 2, (name, node.lineno))


if __name__ == "__main__":
    unittest.main()
