"""Section 4 and what section 2 says of documents, names and any value."""

import copy
import itertools
import unittest

from tagless.documents import is_document, is_name, same, size
from tagless.errors import NoDocument

DOCUMENTS = [
    None, True, False, 0, 1, -1, 10 ** 19, "", "0", "a", "A\n", "True",
    [], [[]], [0], [False], [None], [1, 2], [2, 1], ["a"], [{}],
    {}, {"a": None}, {"a": 0}, {"a": False}, {"a": "0"}, {"b": 0}, {"a": 0, "b": 1}, {"a": 1, "b": 0},
    {"a": {}}, {"a": []}, {"a": [{"b": [1]}]}, {"a": [{"b": [True]}]}, {"abcdefgh": 0},
]

NO_DOCUMENTS = [
    (), (1,), [()], [[(1,)]], {"a": ()}, {"a": [0, {"b": (0,)}]}, [1, 2, [3, (4,)]],
    {"": 0}, {"abcdefghi": 0}, {"A": 0}, {"aB": 0}, {"a1": 0}, {"a b": 0}, {" a": 0}, {"a_": 0},
    {"a\n": 0}, {"abcdefgh\n": 0}, {"\n": 0}, {"\u00e9": 0}, {"\u0430": 0}, {"a\u0301": 0},
    {1: 0}, {True: 0}, {None: 0}, {("a",): 0}, {0: 0, "a": 1}, {"a": 1, 0: 0},
    [{"a": {"b": {"": 1}}}], {"a": [{"b": {2: 1}}]},
]


def deep_list(bottom, levels):
    for _ in range(levels):
        bottom = [bottom]
    return bottom


def deep_record(bottom, levels):
    for _ in range(levels):
        bottom = {"f": bottom}
    return bottom


class TestNames(unittest.TestCase):

    def test_names(self):
        for name in ("a", "z", "name", "abcdefgh", "ijklmnop", "qrstuvwx", "yz"):
            self.assertTrue(is_name(name), name)

    def test_what_is_no_name(self):
        for value in ("", "abcdefghi", "A", "aZ", "a1", "a b", "a\n", "\na", "abcdefgh\n", "\u00e9", "a-b",
                      None, True, 1, [], ["a"], ("a",), {}, {"a": 1}):
            self.assertIs(is_name(value), False, value)


class TestIsDocument(unittest.TestCase):

    def test_documents(self):
        for document in DOCUMENTS:
            self.assertIs(is_document(document), True, document)

    def test_no_documents(self):
        for value in NO_DOCUMENTS:
            self.assertIs(is_document(value), False, value)

    def test_by_name(self):
        self.assertIs(is_document(value=[]), True)
        self.assertIs(is_document(value=()), False)

    def test_names_of_fields(self):
        for length in range(12):
            self.assertEqual(is_document({"a" * length: 1}), 1 <= length <= 8)
        for code in range(0x250):
            self.assertEqual(is_document({chr(code): 1}), "a" <= chr(code) <= "z", code)
            self.assertEqual(is_document({"a" + chr(code): 1}), "a" <= chr(code) <= "z", code)

    def test_deep(self):
        for build in (deep_list, deep_record):
            for bottom in (None, True, 7, "t", [], {}):
                self.assertIs(is_document(build(bottom, 90)), True)
            for bottom in ((), {"": 1}, {1: 1}, [()]):
                self.assertIs(is_document(build(bottom, 89)), False)

    def test_a_part_that_is_none_among_many(self):
        wide = [{"a": [number]} for number in range(300)]
        self.assertIs(is_document(wide), True)
        for at in (0, 150, 299):
            worse = copy.deepcopy(wide)
            worse[at]["a"][0] = (at,)
            self.assertIs(is_document(worse), False)

    def test_nothing_is_changed(self):
        for value in DOCUMENTS + NO_DOCUMENTS:
            before = repr(value)
            is_document(value)
            self.assertEqual(repr(value), before)


class TestSame(unittest.TestCase):

    def test_a_document_is_the_same_as_its_copy_and_as_no_other(self):
        for (row, one), (col, other) in itertools.product(enumerate(DOCUMENTS), repeat=2):
            told = same(one, copy.deepcopy(other))
            self.assertIs(told, row == col, (one, other))

    def test_bools_and_integers(self):
        for one, other in ((True, 1), (False, 0)):
            self.assertIs(same(one, other), False)
            self.assertIs(same(other, one), False)
            self.assertIs(same([0, [one]], [0, [other]]), False)
            self.assertIs(same({"a": {"b": one}}, {"a": {"b": other}}), False)

    def test_the_sequence_of_fields_does_not_count(self):
        for order in itertools.permutations([("a", 1), ("b", [2]), ("c", {"x": 0, "y": 1})]):
            self.assertIs(same(dict(order), {"a": 1, "b": [2], "c": {"y": 1, "x": 0}}), True)
            self.assertIs(same([dict(order)], [{"a": 1, "b": [2], "c": {"y": 1, "x": False}}]), False)

    def test_the_sequence_of_members_counts(self):
        self.assertIs(same([1, 2], [2, 1]), False)
        self.assertIs(same([{"a": 1}, {}], [{}, {"a": 1}]), False)

    def test_lengths_and_fields(self):
        self.assertIs(same([1], [1, 2]), False)
        self.assertIs(same([1, 2], [1]), False)
        self.assertIs(same({"a": 1}, {"a": 1, "b": 2}), False)
        self.assertIs(same({"a": 1, "b": 2}, {"a": 1}), False)
        self.assertIs(same({"a": None}, {"b": None}), False)

    def test_by_name(self):
        self.assertIs(same(one={}, other={}), True)
        self.assertIs(same(other=[1], one=[2]), False)
        self.assertIs(same([], other=[]), True)

    def test_deep(self):
        for build in (deep_list, deep_record):
            self.assertIs(same(build(1, 90), build(1, 90)), True)
            self.assertIs(same(build(1, 90), build(True, 90)), False)
            self.assertIs(same(build([], 89), build({}, 89)), False)

    def test_wrong_arguments(self):
        for value in NO_DOCUMENTS:
            for document in (0, [], {"a": 1}, value):
                with self.assertRaises(NoDocument) as caught:
                    same(value, document)
                self.assertIs(caught.exception.value, value)
            with self.assertRaises(NoDocument) as caught:
                same([0], value)
            self.assertIs(caught.exception.value, value)

    def test_of_two_wrong_arguments_the_first(self):
        first, second = (1,), [(2,)]
        for call in (lambda: same(first, second), lambda: same(one=first, other=second),
                     lambda: same(other=second, one=first)):
            with self.assertRaises(NoDocument) as caught:
                call()
            self.assertIs(caught.exception.value, first)

    def test_wrong_arguments_are_told_ahead_of_unlike_ones(self):
        with self.assertRaises(NoDocument) as caught:
            same([1, 2, 3], {"a": ()})
        self.assertEqual(caught.exception.value, {"a": ()})

    def test_nothing_is_changed(self):
        one, other = {"a": [1, {"b": 2}]}, {"a": [1, {"b": 3}]}
        same(one, other)
        self.assertEqual([one, other], [{"a": [1, {"b": 2}]}, {"a": [1, {"b": 3}]}])


class TestSize(unittest.TestCase):

    def test_sizes(self):
        rows = [(None, 1), (True, 1), (0, 1), ("", 1), ("long text", 1), ([], 1), ({}, 1), ([[]], 2), ([{}], 2),
                ([1, 2, 3], 4), ({"a": 1}, 2), ({"a": 1, "b": "t"}, 3), ({"a": [1, 2], "b": {"c": None}}, 6),
                ([[], {}, [[], {}]], 6), ([None, True, 1, "t", [], {}], 7)]
        for document, parts in rows:
            self.assertEqual(size(document), parts, document)

    def test_a_part_that_stands_twice_counts_twice(self):
        part = [1, 2]
        self.assertEqual(size([part, part]), 7)

    def test_by_name(self):
        self.assertEqual(size(document={"a": []}), 2)

    def test_deep_and_wide(self):
        self.assertEqual(size(deep_list(0, 90)), 91)
        self.assertEqual(size(deep_record([], 89)), 90)
        self.assertEqual(size(list(range(5000))), 5001)

    def test_wrong_arguments(self):
        for value in NO_DOCUMENTS:
            with self.assertRaises(NoDocument) as caught:
                size(value)
            self.assertIs(caught.exception.value, value)
            with self.assertRaises(NoDocument) as caught:
                size(document=value)
            self.assertIs(caught.exception.value, value)

    def test_nothing_is_changed(self):
        document = {"a": [1, {"b": 2}]}
        size(document)
        self.assertEqual(document, {"a": [1, {"b": 2}]})


if __name__ == "__main__":
    unittest.main()
