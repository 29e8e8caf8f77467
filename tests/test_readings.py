"""Section 6: readings, faults, and what is written."""

import copy
import itertools
import random
import unittest

import plainly
from asking import NO_DOCUMENTS, NO_KINDS, TEXT, Asking, book_of, deep, deeper
from tagless import readings as module
from tagless.books import Book
from tagless.errors import BadReading, NoDocument, NoKind, NoReading
from tagless.readings import decoded, fits, how_many, is_reading, is_written, readings, shows_why, why, written

BOOK = Book(TEXT)

FURTHER = Book(TEXT + "\nnone z\nbool o\nlist l n 1 2\nlist m u 0 *\nlist h t 0 0\neither v u g\ntagged w k\n  p c\n  q d\n"
               "record c\n  r v ?\nrecord d open\n  r w\n  s v ?\nint i 1 1\neither e o i z")


class TestExamples(Asking):

    def test_the_examples_of_the_section(self):
        told = decoded(BOOK, "u", {"x": 1, "z": None})
        self.same([told, written(BOOK, told), decoded(BOOK, "u", {"x": 1}), how_many(BOOK, "u", {"x": 1})],
                  [("u", "b", ("b", (("x", ("n", 1)),))), {"x": 1}, ("u", "a", ("a", (("x", ("n", 1)),))), 2])
        self.refused(NoReading, {"k": "one", "x": "q"}, decoded, BOOK, "g", {"k": "one", "x": "q"})


class TestArguments(Asking):

    def test_by_position_and_by_name(self):
        document = {"x": 1}
        reading = ("u", "a", ("a", (("x", ("n", 1)),)))
        self.assertIs(fits(book=BOOK, kind="u", document=document), True)
        self.assertIs(fits(BOOK, "g", document), False)
        self.same(decoded(document=document, book=BOOK, kind="u"), reading)
        self.same(list(readings(book=BOOK, kind="u", document=document))[0], reading)
        self.assertEqual(how_many(book=BOOK, kind="u", document=document), 2)
        self.assertIsNone(why(book=BOOK, kind="u", document=document))
        self.assertIs(shows_why(book=BOOK, kind="u", document=document, value=None), True)
        self.assertIs(is_reading(book=BOOK, value=reading), True)
        self.same(written(book=BOOK, reading=reading), document)
        self.assertIs(is_written(book=BOOK, kind="u", document=document), True)

    def test_no_kind_comes_ahead_of_no_document(self):
        for function in (fits, decoded, readings, how_many, why, is_written):
            for kind in NO_KINDS:
                self.refused(NoKind, kind, function, BOOK, kind, {"x": 1})
                self.refused(NoKind, kind, function, BOOK, kind, (1,))
            for document in NO_DOCUMENTS:
                self.refused(NoDocument, document, function, BOOK, "u", document)
        for kind in NO_KINDS:
            self.refused(NoKind, kind, shows_why, BOOK, kind, (1,), None)
        for document in NO_DOCUMENTS:
            self.refused(NoDocument, document, shows_why, BOOK, "u", document, ("value",))

    def test_errors_keep_the_very_value(self):
        document = {"k": "one"}
        with self.assertRaises(NoReading) as caught:
            decoded(BOOK, "g", document)
        self.assertIs(caught.exception.value, document)

    def test_functions_are_defined_in_the_file(self):
        for name in "fits decoded readings how_many why shows_why is_reading written is_written".split():
            self.assertEqual(getattr(module, name).__module__, "tagless.readings")

    def test_nothing_is_changed(self):
        document = {"k": "q", "r": {"k": "p", "r": {"x": 1, "z": [1]}}, "z": {"a": []}}
        kept = copy.deepcopy(document)
        for function in (fits, decoded, how_many, why, is_written):
            function(FURTHER, "w", document)
            self.same(document, kept)
        list(readings(FURTHER, "w", document))
        self.same(document, kept)


class TestReadings(Asking):

    def test_the_sequence_of_records_and_lists(self):
        book = Book("int n 0 9\nint m 0 9\neither u n m\nrecord r\n  y u\n  x u\nlist l u 0 2\neither w r l")
        told = [(row[1][0][1][1], row[1][1][1][1]) for row in readings(book, "r", {"y": 1, "x": 2})]
        self.assertEqual(told, [("n", "n"), ("n", "m"), ("m", "n"), ("m", "m")])
        self.assertEqual([row[1][0][0] for row in readings(book, "r", {"y": 1, "x": 2})], ["x"] * 4)
        told = [(row[1][0][1], row[1][1][1]) for row in readings(book, "l", [1, 2])]
        self.assertEqual(told, [("n", "n"), ("n", "m"), ("m", "n"), ("m", "m")])

    def test_a_union_stands_ahead_of_what_is_read_by_its_member(self):
        book = Book("int n 0 9\nint m 0 9\neither u n m\neither v u n\neither w v u")
        told = list(readings(book, "w", 3))
        rows = [("v", "u", "n"), ("v", "u", "m"), ("v", "n"), ("u", "n"), ("u", "m")]
        self.assertEqual([words_of(row) for row in told], rows)
        self.assertEqual(how_many(book, "w", 3), 5)

    def test_a_document_that_does_not_fit_has_none(self):
        self.assertEqual(list(readings(BOOK, "g", {"x": 1})), [])
        self.assertEqual(how_many(BOOK, "g", {"x": 1}), 0)

    def test_tagged_kinds_within_eithers_and_tagged_kinds(self):
        document = {"k": "q", "r": {"k": "p", "r": {"k": "one", "x": 1}}, "s": {"x": 1}, "y": 0}
        reading = decoded(FURTHER, "w", document)
        # The record {"k": "one", "x": 1} fits b, too, which lets extras: u stands ahead of g.
        inner = ("c", (("r", ("v", "u", ("u", "b", ("b", (("x", ("n", 1)),))))),))
        self.same(reading, ("w", "q", ("d", (("r", ("w", "p", inner)),
                                             ("s", ("v", "u", ("u", "a", ("a", (("x", ("n", 1)),)))))))))
        self.same(written(FURTHER, reading), {"k": "q", "r": {"k": "p", "r": {"x": 1}}, "s": {"x": 1}})
        self.assertEqual(how_many(FURTHER, "w", document), 4)

    def test_true_is_not_1(self):
        self.same(decoded(FURTHER, "e", True), ("e", "o", ("o", True)))
        self.same(decoded(FURTHER, "e", 1), ("e", "i", ("i", 1)))
        self.assertIs(is_reading(FURTHER, ("e", "i", ("i", True))), False)
        self.assertIs(is_reading(FURTHER, ("e", "o", ("o", 1))), False)

    def test_by_a_plain_look(self):
        source = random.Random(61)
        many = 0
        for _ in range(30):
            forms = plainly.some_forms(source)
            book = book_of(forms)
            closed = plainly.closed(forms)
            documents = plainly.documents(forms, 3)
            for document in source.sample(documents, min(len(documents), 80)):
                for name in forms:
                    told = plainly.all_readings(forms, name, document)
                    many += len(told) > 1
                    self.same(list(readings(book, name, document)), told)
                    self.assertEqual(how_many(book, name, document), len(told))
                    self.assertIs(fits(book, name, document), len(told) > 0)
                    self.assertIs(is_written(book, name, document), plainly.fits(closed, name, document))
                    if told:
                        self.same(decoded(book, name, document), told[0])
                    else:
                        self.refused(NoReading, document, decoded, book, name, document)
        self.assertGreater(many, 100)

    def test_a_great_number_of_readings(self):
        book = Book("int n 0 9\nint m 0 9\neither u n m\nlist l u 0 *\nlist k l 0 *")
        document = [[1] * 99 for _ in range(6)]
        self.assertEqual(how_many(book, "k", document), 2 ** 594)
        told = list(itertools.islice(readings(book, "k", document), 5))
        self.assertEqual([row[1] for row in told[0][1][5][1]], ["n"] * 99)
        self.assertEqual([row[1] for row in told[4][1][5][1]], ["n"] * 96 + ["m", "n", "n"])

    def test_unions_within_unions_count_each_way(self):
        names = "abcdefghijkl"
        lines = [" ".join(["either", name, *names[at + 1:at + 5], "n", "m"]) for at, name in enumerate(names)]
        book = Book("\n".join(["int n 0 9", "int m 0 9"] + lines))
        told = {"n": 1, "m": 1}
        for at in reversed(range(len(names))):
            told[names[at]] = sum(told[member] for member in names[at + 1:at + 5]) + 2
        self.assertEqual(how_many(book, "a", 5), told["a"])
        self.assertEqual(len(list(readings(book, "d", 5))), told["d"])

    def test_great_and_deep_documents(self):
        book = Book("list l l 0 *\nrecord r open\n  f r ?\neither u l r")
        self.assertTrue(fits(book, "l", deep(89, [])))
        document = {}
        for _ in range(300):
            document = {"f": document, "g": 1}
        self.assertEqual(how_many(book, "u", document), 1)
        told = decoded(book, "u", document)
        self.assertIs(is_reading(book, told), True)
        self.assertEqual(plainly.size(written(book, told)), 301)
        self.assertIs(is_written(book, "u", document), False)
        self.assertIs(is_written(book, "u", written(book, told)), True)
        self.assertEqual(why(book, "l", document), ("value",))

    def test_a_generator_goes_on_by_what_was_handed_in(self):
        book = Book("int n 0 9\nint m 0 9\neither u n m\nrecord r\n  x u\n  y l\nlist l u 0 2")
        document = {"x": 1, "y": [2]}
        right = plainly.all_readings({name: book[name].form for name in book.names}, "r", document)
        told = []
        for reading in readings(book, "r", document):
            told.append(reading)
            document["y"].append(5)
            document["z"] = None
            document.pop("x", None)
        self.same(told, right)
        self.assertEqual(len(told), 4)


def words_of(reading):
    """The members that a reading of eithers takes."""
    told = []
    while len(reading) == 3:
        told.append(reading[1])
        reading = reading[2]
    return tuple(told)


class TestWhy(Asking):

    def test_each_fault(self):
        rows = [
            ("n", 10, ("value",)), ("n", True, ("value",)), ("t", None, ("value",)), ("l", {}, ("value",)),
            ("a", [], ("value",)), ("g", "one", ("value",)), ("l", [], ("length",)), ("l", [1, 2, 3], ("length",)),
            ("l", [1, "q"], ("item", 1, ("value",))), ("m", [{"x": 1}, 0], ("item", 1, ("member", "a", ("value",)))),
            ("a", {}, ("lacks", "x")), ("a", {"x": 1, "y": 1}, ("extra", "y")), ("a", {"x": "1"}, ("field", "x", ("value",))),
            ("b", {"x": 1, "y": 1}, ("field", "y", ("value",))), ("g", {"x": 1}, ("tag",)), ("g", {"k": "six"}, ("tag",)),
            ("g", {"k": 1, "x": 1}, ("tag",)), ("g", {"k": ["one"]}, ("tag",)), ("g", {"k": "one"}, ("lacks", "x")),
            ("g", {"k": "one", "x": 1, "y": "q"}, ("extra", "y")), ("g", {"k": "one", "x": -1}, ("field", "x", ("value",))),
            ("h", [""], ("length",)), ("u", {}, ("member", "a", ("lacks", "x"))), ("u", {}, ("member", "b", ("lacks", "x"))),
            ("v", 1, ("member", "g", ("value",))), ("v", {}, ("member", "u", ("member", "b", ("lacks", "x")))),
            ("w", {"k": "q"}, ("lacks", "r")), ("w", {"k": "p", "r": 1}, ("field", "r", ("member", "g", ("value",)))),
        ]
        for kind, document, fault in rows:
            self.assertIs(shows_why(FURTHER, kind, document, fault), True, (kind, document, fault))
            self.assertIs(shows_why(FURTHER, kind, document, value=None), False)
            self.assertIs(shows_why(FURTHER, kind, document, why(FURTHER, kind, document)), True)

    def test_what_is_no_fault(self):
        rows = [
            ("n", 10, ("length",)), ("l", {}, ("length",)), ("l", [1, "q"], ("length",)), ("l", ["q"], ("item", False, ("value",))),
            ("l", [1, "q"], ("item", True, ("value",))), ("l", [1, "q"], ("item", 0, ("value",))),
            ("l", [1, "q"], ("item", -1, ("value",))), ("l", ["q"], ("item", 1, ("value",))), ("a", {}, ["lacks", "x"]),
            ("a", {}, ("lacks", "x", None)), ("a", {}, ("lacks",)), ("a", {}, ("lacks", ["x"])), ("a", {}, ("lacks", "y")),
            ("b", {}, ("lacks", "y")), ("b", {"z": 1}, ("extra", "z")), ("a", {"y": 1}, ("field", "y", ("value",))),
            ("a", {"x": "1"}, ("field", "x", None)), ("a", {"x": "1"}, ("field", "x")), ("a", {"x": "1"}, ("value",)),
            ("g", {"k": "one", "x": 1, "y": "q"}, ("extra", "k")), ("g", {"k": "one"}, ("tag",)), ("g", {"k": 1}, ("lacks", "x")),
            ("g", {"k": 1}, ("field", "k", ("value",))), ("g", "one", ("tag",)), ("u", {}, ("lacks", "x")),
            ("u", {}, ("member", "u", ("lacks", "x"))), ("u", {}, ("member", "c", ("value",))),
            ("m", [{"x": 1, "y": "q"}, 0], ("item", 0, ("member", "a", ("extra", "y")))), ("n", 10, deeper(90)),
            ("n", 10, ()), ("n", 10, ("value", "value")), ("n", 10, "value"), ("n", 10, ("value", ())), ("n", 10, (None,)),
            ("n", 10, {"value": 1}), ("n", 10, (["value"],)),
        ]
        for kind, document, fault in rows:
            self.assertIs(shows_why(FURTHER, kind, document, fault), False, (kind, document, fault))

    def test_what_fits(self):
        for kind, document in (("n", 1), ("u", {"x": 1}), ("h", []), ("m", [])):
            self.assertIsNone(why(FURTHER, kind, document))
            self.assertIs(shows_why(FURTHER, kind, document, None), True)
            for value in (("value",), False, (), 0, "", deep(90), deeper(90), ("member", "a", ("extra", "y"))):
                self.assertIs(shows_why(FURTHER, kind, document, value), False)

    def test_a_deep_fault(self):
        book = Book("list l u 1 1\nnone n\neither u l n\neither v u n")
        document = deep(85, 1)
        fault = why(book, "v", document)
        self.assertIs(shows_why(book, "v", document, fault), True)
        self.assertIs(shows_why(book, "v", deep(84, 1), fault), False)

    def test_by_a_plain_look(self):
        source = random.Random(62)
        for _ in range(30):
            forms = plainly.some_forms(source)
            book = book_of(forms)
            documents = plainly.documents(forms, 3)
            for document in source.sample(documents, min(len(documents), 20)):
                for name in forms:
                    right = plainly.faults(forms, name, document) or [None]
                    told = why(book, name, document)
                    self.assertTrue(any(plainly.same(told, fault) for fault in right), (name, document, told))
                    for fault in source.sample(right, min(len(right), 3)):
                        self.assertIs(shows_why(book, name, document, fault), True)
                        value = plainly.otherwise(source, fault)
                        self.assertIs(shows_why(book, name, document, value),
                                      any(plainly.same(value, other) for other in right), (name, document, value))


class TestReadingsAsValues(Asking):

    def test_what_is_none(self):
        values = [None, True, 0, "", "u", (), [], {}, ("n",), ("n", 10), ("n", True), ("n", "1"), ["n", 1], ("n", 1, 1),
                  ("z", 1), (["n"], 1), ({}, 1), ("t", 1), ("a", ()), ("a", (("x", ("n", 1)), ("y", ("t", "")))),
                  ("a", [("x", ("n", 1))]), ("a", (["x", ("n", 1)],)), ("a", (("x", ("t", "")),)), ("a", (("x", 1),)),
                  ("b", (("y", ("t", "")), ("x", ("n", 1)))), ("b", (("y", ("t", "")),)), ("a", ((["x"], ("n", 1)),)),
                  ("b", (("x", ("n", 1)), ("x", ("n", 1)))), ("u", ("a", (("x", ("n", 1)),))), ("u", "n", ("n", 1)),
                  ("u", "b", ("a", (("x", ("n", 1)),))), ("u", ["a"], ("a", (("x", ("n", 1)),))), ("g", "one", ("n", 1)),
                  ("g", "a", ("a", (("x", ("n", 1)),))), ("g", "two", ("a", (("x", ("n", 1)),))),
                  ("g", "one", {"x": 1}), ("u", "a", None), ("a", None), ("a", ((),)), ("a", (("x",),)), (1, 2), ((), ()),
                  deep(90), deeper(90), ("b", (("k", ("t", "one")), ("x", ("n", 1))))]
        for value in values:
            self.assertIs(is_reading(BOOK, value), False, value)
            self.refused(BadReading, value, written, BOOK, value)

    def test_lengths_of_lists(self):
        one = ("n", 1)
        for many in range(5):
            self.assertIs(is_reading(FURTHER, ("l", (one,) * many)), many in (1, 2))
            self.assertIs(is_reading(FURTHER, ("h", (("t", ""),) * many)), many == 0)
        self.assertIs(is_reading(FURTHER, ("l", [one])), False)
        self.assertIs(is_reading(FURTHER, ("m", ())), True)

    def test_written_is_new(self):
        reading = decoded(FURTHER, "m", [{"x": 1}, {"x": 2}])
        told = written(FURTHER, reading)
        told[0]["x"] = 5
        told.append(None)
        self.same(written(FURTHER, reading), [{"x": 1}, {"x": 2}])

    def test_a_tag_is_written(self):
        self.same(written(BOOK, ("g", "two", ("b", (("x", ("n", 1)), ("y", ("t", "one")))))), {"k": "two", "x": 1, "y": "one"})

    def test_a_reading_need_not_be_the_first_one(self):
        reading = ("u", "b", ("b", (("x", ("n", 1)),)))
        self.assertIs(is_reading(BOOK, reading), True)
        self.same(written(BOOK, reading), {"x": 1})

    def test_by_a_plain_look(self):
        source = random.Random(63)
        seen = 0
        for _ in range(30):
            forms = plainly.some_forms(source)
            book = book_of(forms)
            documents = plainly.documents(forms, 3)
            for document in source.sample(documents, min(len(documents), 60)):
                for name in forms:
                    for reading in plainly.all_readings(forms, name, document):
                        self.assertIs(is_reading(book, reading), True)
                        self.same(written(book, reading), plainly.written(forms, reading))
                        value = plainly.otherwise(source, reading)
                        right = plainly.is_reading(forms, value)
                        self.assertIs(is_reading(book, value), right, value)
                        seen += right
        self.assertGreater(seen, 50)


class TestIsWritten(Asking):

    def test_extras_within(self):
        rows = [("b", {"x": 1}, True), ("b", {"x": 1, "z": 1}, False), ("b", {"x": 1, "y": ""}, True),
                ("u", {"x": 1}, True), ("u", {"x": 1, "z": 1}, False), ("g", {"k": "two", "x": 1}, True),
                ("g", {"k": "two", "x": 1, "z": 1}, False), ("m", [{"x": 1}, {"x": 1, "z": 1}], False), ("n", 1, True),
                ("n", 10, False), ("v", {"x": 1, "k": "two"}, True), ("u", {"x": 1, "k": "two"}, False),
                ("w", {"k": "p", "r": {"x": 1, "z": 1}}, False), ("w", {"k": "p", "r": {"x": 1}}, True)]
        for kind, document, right in rows:
            self.assertIs(is_written(FURTHER, kind, document), right, (kind, document))


if __name__ == "__main__":
    unittest.main()
