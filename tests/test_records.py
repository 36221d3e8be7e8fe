"""Records: points 2, 4, 5 and 29, and the methods of the interface."""

import inspect
import unittest
from itertools import permutations
from unittest import mock

from growingrecords.errors import BadName, FieldThere, NoField, Shared
from growingrecords.records import Record, extends

make = Record.make
LONG = "abcdefghijklmnopqrstuvwxyzabcd"
WRONG_NAMES = [
    "", LONG + "e", "A", "aB", "a1", "1", "_", "a_b", " ", " a", "a ", "a b", "a\n", "\na", "\n", "a-", "a.b", "{", "`", "~",
]


class TestMaking(unittest.TestCase):

    def test_nested_dicts_become_records(self):
        record = make({"b": {"d": 4, "c": {}}, "a": -1})
        self.assertIsInstance(record["b"], Record)
        self.assertIsInstance(record["b"]["c"], Record)
        self.assertEqual((record["a"], record["b"]["d"], len(record["b"]["c"])), (-1, 4, 0))

    def test_order_of_keys_means_nothing(self):
        fields = [("a", 1), ("b", {"x": 1, "y": 2}), ("c", 3)]
        texts = {str(make(dict(order))) for order in permutations(fields)}
        self.assertEqual(texts, {"{a: 1, b: {x: 1, y: 2}, c: 3}"})
        self.assertEqual(make({"y": 1, "x": 2}), make({"x": 2, "y": 1}))

    def test_some_inner_values_are_records_already(self):
        inner = make({"x": 1})
        record = make({"a": inner, "b": {"c": inner, "d": {"e": inner}}})
        self.assertEqual(record.plain(), {"a": {"x": 1}, "b": {"c": {"x": 1}, "d": {"e": {"x": 1}}}})

    def test_argument_is_copied_on_every_level(self):
        fields = {"a": {"b": {"c": 1}}}
        record = make(fields)
        fields["a"]["b"]["c"] = 2
        fields["a"]["b"]["d"] = 3
        fields["a"]["e"] = 4
        fields["f"] = 5
        self.assertEqual(str(record), "{a: {b: {c: 1}}}")

    def test_argument_is_not_changed(self):
        inner = make({"z": 1})
        fields = {"b": {"d": inner, "c": {}}, "a": 1}
        make(fields)
        self.assertEqual(list(fields), ["b", "a"])
        self.assertEqual(list(fields["b"]), ["d", "c"])
        self.assertIs(fields["b"]["d"], inner)
        self.assertIs(type(fields["b"]["c"]), dict)

    def test_names_of_one_and_of_thirty_letters(self):
        for name in ("a", "z", "m", LONG):
            self.assertEqual(make({name: 1}).names, (name,))

    def test_wrong_names(self):
        for name in WRONG_NAMES:
            for fields in ({name: 1}, {"a": 1, name: 1}, {"a": {"b": {name: {}}}}, {name: {"a": 1}}):
                with self.subTest(fields), self.assertRaises(BadName) as caught:
                    make(fields)
                self.assertEqual(caught.exception.name, name)

    def test_of(self):
        inner = make({"x": 1})
        self.assertEqual(Record.of(b=2, a=inner), make({"a": {"x": 1}, "b": 2}))
        self.assertEqual(Record.of(), make({}))
        self.assertEqual(Record.of(self=1, fields=2, name=3, value=4).names, ("fields", "name", "self", "value"))
        self.assertIsInstance(Record.of(a=1), Record)

    def test_of_wrong_names(self):
        for name in ("A", "a_b", "a1", LONG + "e"):
            with self.assertRaises(BadName) as caught:
                Record.of(**{"a": 1, name: 2})
            self.assertEqual(caught.exception.name, name)

    def test_large_and_deep_values(self):
        deep = 10 ** 30 - 1
        for _ in range(40):
            deep = {"a": deep, "b": -deep if isinstance(deep, int) else 0}
        self.assertEqual(make(deep).plain(), deep)
        wide = make({first + second: 1 for first in LONG[:26] for second in LONG[:26]})
        self.assertEqual((len(wide), wide.size), (676, 676))

    def test_values_as_deep_as_calls_return_them(self):
        fields = {}
        for _ in range(170):
            fields = {"a": fields}
        one, two = make(fields), make(fields)
        self.assertEqual((one.size, len(list(one.paths())), len(str(one))), (170, 170, 170 * 5 + 2))
        self.assertTrue(one == two and one <= two and extends(one, two))
        self.assertEqual(one.plain(), fields)

    def test_arguments_by_name(self):
        record = make(fields={"a": 1})
        self.assertEqual(str(record.put(name="b", value=2)), "{a: 1, b: 2}")
        self.assertEqual(str(record.renamed(old="a", new="b")), "{b: 1}")
        self.assertTrue(extends(large=record, small=make({})))

    def test_methods_are_defined_in_the_class(self):
        for name in ("make", "of", "plain", "size", "put", "without", "only", "renamed", "paths", "__or__", "__add__",
                     "__sub__", "__and__", "__eq__", "__le__", "__contains__", "__getitem__", "__len__", "__iter__", "__str__"):
            self.assertIn(name, vars(Record))


class TestLooking(unittest.TestCase):

    def test_plain_is_in_ascending_order_on_every_level(self):
        plain = make({"c": 1, "a": {"z": 1, "y": {"n": 2, "m": 3}}, "b": {}}).plain()
        self.assertEqual(repr(plain), "{'a': {'y': {'m': 3, 'n': 2}, 'z': 1}, 'b': {}, 'c': 1}")

    def test_plain_is_new_on_every_level(self):
        record = make({"a": {"b": {"c": 1}}})
        first = record.plain()
        first["a"]["b"]["c"] = 2
        first["a"]["d"] = 3
        first["e"] = 4
        self.assertEqual(record.plain(), {"a": {"b": {"c": 1}}})

    def test_names(self):
        self.assertEqual(make({}).names, ())
        self.assertEqual(make({"b": 1, "ab": {"c": 1}, "a": 2}).names, ("a", "ab", "b"))
        self.assertIn("names", vars(make({"a": 1})))

    def test_size_counts_all_levels(self):
        self.assertEqual(make({}).size, 0)
        self.assertEqual(make({"a": 1, "b": 2}).size, 2)
        self.assertEqual(make({"a": {"b": {"c": {}}, "d": 1}, "e": 2}).size, 5)

    def test_size_of_a_record_that_is_held_several_times(self):
        record = make({"a": 1})
        for _ in range(60):
            record = Record.of(a=record, b=record)
        self.assertEqual(record.size, 2 ** 60 * 3 - 2)

    def test_length_membership_and_items(self):
        record = make({"b": {"c": 1, "d": 2}, "a": 3})
        self.assertEqual(len(record), 2)
        self.assertTrue("a" in record and "b" in record)
        self.assertTrue("c" not in record and "" not in record and "A" not in record)
        self.assertEqual(record["a"], 3)
        self.assertEqual(record["b"], make({"c": 1, "d": 2}))

    def test_missing_items(self):
        for name in ("c", "", "A", "ab"):
            with self.assertRaises(NoField) as caught:
                make({"a": {"c": 1}})[name]
            self.assertEqual(caught.exception.name, name)

    def test_iterating(self):
        record = make({"b": 1, "c": {"a": 1}, "aa": 2})
        self.assertEqual(list(record), ["aa", "b", "c"])
        self.assertEqual([(one, two) for one in record for two in record][:4],
                         [("aa", "aa"), ("aa", "b"), ("aa", "c"), ("b", "aa")])
        self.assertEqual(list(make({})), [])

    def test_text(self):
        self.assertEqual(str(make({})), "{}")
        self.assertEqual(str(make({"b": {"c": -2}, "a": 1})), "{a: 1, b: {c: -2}}")
        self.assertEqual(str(make({"a": {"b": {}}})), "{a: {b: {}}}")

    def test_paths(self):
        record = make({"b": {"d": {}, "c": {"z": 1, "y": 2}}, "a": 1, "e": {}})
        expected = [("a",), ("b",), ("b", "c"), ("b", "c", "y"), ("b", "c", "z"), ("b", "d"), ("e",)]
        self.assertEqual(list(record.paths()), expected)
        self.assertEqual(list(record.paths()), expected)
        self.assertEqual(list(make({}).paths()), [])
        self.assertTrue(inspect.isgenerator(record.paths()))

    def test_paths_of_two_records_in_turn(self):
        one, two = make({"a": {"b": 1}, "c": 2}), make({"x": {"y": {"z": 1}}})
        first, second, third = one.paths(), two.paths(), one.paths()
        seen = [next(walk) for walk in (first, second, third, second, first, first, second, third)]
        self.assertEqual(seen, [("a",), ("x",), ("a",), ("x", "y"), ("a", "b"), ("c",), ("x", "y", "z"), ("a", "b")])

    def test_paths_are_as_many_as_the_size(self):
        record = make({"a": {"b": {"c": {}}, "d": 1}, "e": 2})
        self.assertEqual(len(list(record.paths())), record.size)


class TestChanging(unittest.TestCase):

    def setUp(self):
        self.record = make({"a": 1, "b": {"c": 2}})

    def tearDown(self):
        self.assertEqual(str(self.record), "{a: 1, b: {c: 2}}")
        self.assertEqual((self.record.names, self.record.size), (("a", "b"), 3))

    def test_put(self):
        self.assertEqual(str(self.record.put("a", 5)), "{a: 5, b: {c: 2}}")
        self.assertEqual(str(self.record.put("aa", make({"x": 1}))), "{a: 1, aa: {x: 1}, b: {c: 2}}")
        self.assertEqual(self.record.put("b", 1).size, 2)
        self.assertEqual(self.record.put(LONG, 0).names, ("a", LONG, "b"))
        self.assertEqual(self.record.put("d", self.record).size, 7)

    def test_put_wrong_names(self):
        for name in WRONG_NAMES:
            with self.assertRaises(BadName) as caught:
                self.record.put(name, 1)
            self.assertEqual(caught.exception.name, name)

    def test_without(self):
        self.assertEqual(str(self.record.without("a")), "{b: {c: 2}}")
        self.assertEqual(str(self.record.without("b", "a", "b")), "{}")
        self.assertEqual(str(self.record.without()), "{a: 1, b: {c: 2}}")
        self.assertEqual(str(self.record.without("c", "z", *WRONG_NAMES)), "{a: 1, b: {c: 2}}")

    def test_only(self):
        self.assertEqual(str(self.record.only("a")), "{a: 1}")
        self.assertEqual(str(self.record.only("b", "a", "b")), "{a: 1, b: {c: 2}}")
        self.assertEqual(str(self.record.only()), "{}")
        self.assertEqual(str(self.record.only("c", "z", "b", *WRONG_NAMES)), "{b: {c: 2}}")

    def test_renamed(self):
        self.assertEqual(str(self.record.renamed("a", "z")), "{b: {c: 2}, z: 1}")
        self.assertEqual(str(self.record.renamed("b", "aa")), "{a: 1, aa: {c: 2}}")
        self.assertEqual(self.record.renamed("a", "a"), self.record)

    def test_renamed_errors(self):
        for old, new in (("c", "d"), ("c", "a"), ("c", "A"), ("c", "c"), ("A", "")):
            with self.assertRaises(NoField) as caught:
                self.record.renamed(old, new)
            self.assertEqual(caught.exception.name, old)
        for new in WRONG_NAMES:
            with self.assertRaises(BadName) as caught:
                self.record.renamed("a", new)
            self.assertEqual(caught.exception.name, new)
        with self.assertRaises(FieldThere) as caught:
            self.record.renamed("a", "b")
        self.assertEqual(caught.exception.name, "b")


class TestOperators(unittest.TestCase):

    def setUp(self):
        self.left = make({"a": 1, "b": 2, "c": {"x": 1}})
        self.right = make({"b": 3, "c": {"y": 1}, "d": 4})
        self.apart = make({"e": 5})

    def tearDown(self):
        self.assertEqual(str(self.left), "{a: 1, b: 2, c: {x: 1}}")
        self.assertEqual(str(self.right), "{b: 3, c: {y: 1}, d: 4}")

    def test_or(self):
        self.assertEqual(str(self.left | self.right), "{a: 1, b: 3, c: {y: 1}, d: 4}")
        self.assertEqual(str(self.right | self.left), "{a: 1, b: 2, c: {x: 1}, d: 4}")
        self.assertEqual(str(self.apart | self.left), "{a: 1, b: 2, c: {x: 1}, e: 5}")
        self.assertEqual(self.left | self.left, self.left)
        self.assertEqual(self.left | make({}), self.left)
        self.assertEqual((self.left | self.right).size, 5)

    def test_plus(self):
        self.assertEqual(str(self.left + self.apart), "{a: 1, b: 2, c: {x: 1}, e: 5}")
        self.assertEqual(self.left + make({}), self.left)
        self.assertEqual(make({}) + make({}), make({}))

    def test_plus_with_names_in_common(self):
        for left, right, name in ((self.left, self.right, "b"), (self.right, self.left, "b"), (self.left, self.left, "a"),
                                  (self.left, make({"c": {"x": 1}, "d": 1}), "c"), (make({"z": 1, "y": 1}), make({"y": 1, "z": 1}), "y")):
            with self.assertRaises(Shared) as caught:
                left + right
            self.assertEqual(caught.exception.name, name)

    def test_minus(self):
        self.assertEqual(str(self.left - self.right), "{a: 1}")
        self.assertEqual(str(self.right - self.left), "{d: 4}")
        self.assertEqual(self.left - self.apart, self.left)
        self.assertEqual(self.left - self.left, make({}))

    def test_and(self):
        self.assertEqual(str(self.left & self.right), "{b: 2, c: {x: 1}}")
        self.assertEqual(str(self.right & self.left), "{b: 3, c: {y: 1}}")
        self.assertEqual(self.left & self.apart, make({}))
        self.assertEqual(self.left & self.left, self.left)

    def test_equality(self):
        self.assertTrue(make({"a": {"b": 1}, "c": 2}) == make({"c": 2, "a": make({"b": 1})}))
        self.assertFalse(make({"a": {"b": 1}, "c": 2}) != make({"c": 2, "a": make({"b": 1})}))
        for one, two in (({"a": 1}, {"a": 2}), ({"a": 1}, {"b": 1}), ({"a": 1}, {}), ({"a": 1}, {"a": 1, "b": 1}),
                         ({"a": {}}, {"a": 0}), ({"a": {"b": 1}}, {"a": {"b": 2}}), ({"a": {"b": 1}, "c": 1}, {"a": {"b": 1, "c": 1}})):
            self.assertFalse(make(one) == make(two))
            self.assertTrue(make(one) != make(two))
            self.assertFalse(make(two) == make(one))

    def test_a_record_equals_nothing_else(self):
        for other in (0, 1, {}, {"a": 1}, None, "{a: 1}", [], ("a",)):
            for record in (make({}), make({"a": 1})):
                self.assertFalse(record == other or other == record)
                self.assertTrue(record != other and other != record)
        self.assertFalse(make({"a": 1}) == mock.ANY)

    def test_below(self):
        self.assertTrue(make({}) <= self.left)
        self.assertTrue(self.left <= self.left)
        self.assertTrue(make({"c": {"x": 1}}) <= self.left)
        self.assertTrue(make({"a": 1, "b": 2}) <= self.left)
        self.assertFalse(make({"c": {}}) <= self.left)
        self.assertFalse(make({"a": 2}) <= self.left)
        self.assertFalse(make({"a": {}}) <= self.left)
        self.assertFalse(make({"d": 1}) <= self.left)
        self.assertFalse(self.left <= make({"a": 1, "b": 2}))
        self.assertFalse(self.left <= make({}))


class TestExtends(unittest.TestCase):

    def assert_extends(self, large, small, expected):
        values = [make(value) if isinstance(value, dict) else value for value in (large, small)]
        self.assertIs(extends(*values), expected)

    def test_integers(self):
        self.assert_extends(5, 5, True)
        self.assert_extends(-5, 5, False)
        self.assert_extends(10 ** 29, 10 ** 29, True)
        self.assert_extends(0, 1, False)

    def test_records(self):
        self.assert_extends({}, {}, True)
        self.assert_extends({"a": 1}, {}, True)
        self.assert_extends({}, {"a": 1}, False)
        self.assert_extends({"a": 1, "b": 2}, {"b": 2}, True)
        self.assert_extends({"a": 1, "b": 2}, {"b": 3}, False)

    def test_several_levels(self):
        small = {"a": {"b": {"c": 1}}, "d": {}}
        self.assert_extends({"a": {"b": {"c": 1, "x": 0}, "y": {}}, "d": {"z": {"z": 1}}, "e": 1}, small, True)
        self.assert_extends({"a": {"b": {"x": 0}, "y": {}}, "d": {}, "c": 1}, small, False)
        self.assert_extends({"a": {"b": {"c": 2}}, "d": {}}, small, False)
        self.assert_extends({"a": {"b": {"c": 1}}}, small, False)
        self.assert_extends(small, small, True)

    def test_record_against_integer(self):
        self.assert_extends({}, 0, False)
        self.assert_extends(0, {}, False)
        self.assert_extends({"a": {}}, {"a": 1}, False)
        self.assert_extends({"a": 1}, {"a": {}}, False)


if __name__ == "__main__":
    unittest.main()
