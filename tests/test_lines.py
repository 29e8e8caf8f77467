"""Section 12, the Line: rows of stations that pass a document on."""

import copy
import random
import unittest

import plainly
from asking import NO_DOCUMENTS, NO_KINDS, TEXT, WIDE, Asking, book_of, deep
from tagless import lines as module
from tagless.books import Book
from tagless.documents import is_document
from tagless.drafts import Draft
from tagless.errors import NoDocument, NoKind, NoReading
from tagless.lines import Line
from tagless.passing import passed

BOOK = Book(TEXT)

NESTED = Book("int n 0 9\nrecord a open\n  x n\nlist l a 0 *\nrecord o open\n  l l ?\n  r r ?\nrecord r\n  a a ?\n"
              "tagged g k\n  one o\n  two r\neither u g l n")


class TestExamples(Asking):

    def test_the_example_of_the_section(self):
        self.same({"x": 1, "z": None} >> Line(BOOK, "b") >> Line(BOOK, "a"), {"x": 1})

    def test_it_is_defined_in_the_file(self):
        self.assertEqual(Line.__module__, module.__name__)
        for name in ("__len__", "__eq__", "__rshift__", "__rrshift__", "__call__", "lost", "stations"):
            self.assertIn(name, vars(Line))


class TestLines(Asking):

    def test_of_one_station(self):
        line = Line(BOOK, "u")
        self.assertEqual(line.stations, ((BOOK, "u"),))
        self.assertEqual(Line(book=BOOK, kind="u").stations, ((BOOK, "u"),))
        self.assertEqual(len(line), 1)
        for kind in NO_KINDS + [BOOK, line]:
            if kind is line or kind is BOOK:
                with self.assertRaises(NoKind) as caught:
                    Line(BOOK, kind)
                self.assertIs(caught.exception.value, kind)
            else:
                self.refused(NoKind, kind, Line, BOOK, kind)

    def test_of_several(self):
        wide = Book(WIDE)
        one, other, third = Line(BOOK, "u"), Line(wide, "a"), Line(BOOK, "b")
        line = one >> other >> third
        self.assertEqual([(book.text, kind) for book, kind in line.stations], [(TEXT, "u"), (WIDE, "a"), (TEXT, "b")])
        self.assertEqual([len(line), len(one), len(other), len(third)], [3, 1, 1, 1])
        self.assertTrue(line == one >> (other >> third))
        self.assertEqual(len(line >> line), 6)
        self.assertIs(type(line.stations), tuple)
        self.assertTrue(all(type(row) is tuple for row in line.stations))

    def test_equality(self):
        one, other = Line(BOOK, "u"), Line(BOOK, "b")
        self.assertTrue(one == Line(Book(TEXT), "u"))
        self.assertFalse(one != Line(Book(TEXT), "u"))
        self.assertTrue(one >> other == Line(BOOK, "u") >> Line(BOOK, "b"))
        for value in (other, one >> other, one >> one, other >> one, Line(Book(TEXT + "\nnone z"), "u"), BOOK, None, "u",
                      ((BOOK, "u"),), [one], one.stations, Draft(BOOK, "u")):
            self.assertFalse(one == value)
            self.assertTrue(one != value)
        self.assertFalse(one >> other == other >> one)

    def test_of_what_is_no_line(self):
        line = Line(BOOK, "u")
        for value in (None, True, 1, "u", (), [], {}, {"x": 1}, BOOK, Draft(BOOK, "u"), (line,), [line]):
            with self.assertRaises(TypeError) as caught:
                line >> value
            self.assertIs(type(caught.exception), TypeError)

    def test_a_line_stays_as_it_is(self):
        one, other = Line(BOOK, "u"), Line(BOOK, "b")
        both = one >> other
        both >> both
        self.assertEqual([one.stations, other.stations, len(both)], [((BOOK, "u"),), ((BOOK, "b"),), 2])


class TestPassing(Asking):

    def test_a_document_on_either_side(self):
        line = Line(BOOK, "b") >> Line(BOOK, "u")
        for document, right in (({"x": 1, "y": "", "z": 1}, {"x": 1, "y": ""}), ({"x": 1}, {"x": 1})):
            kept = copy.deepcopy(document)
            self.same(document >> line, right)
            self.same(line(document), right)
            self.same(line(document=document), right)
            self.same(document, kept)
        plain = Line(Book("none z\nbool b\ntext t\nint n 0 9\nlist l n 0 *\neither u z b t n l"), "u")
        for document in (None, True, False, "", "a", 0, 9, [], [1, 2]):
            self.same(document >> plain, document)
            self.same(document >> (plain >> plain), document)

    def test_no_document(self):
        line = Line(BOOK, "u") >> Line(BOOK, "b")
        for value in NO_DOCUMENTS:
            self.refused(NoDocument, value, line, value)
            self.refused(NoDocument, value, line.lost, value)
            with self.assertRaises(NoDocument) as caught:
                value >> line
            self.assertIs(caught.exception.value, value)
        for value in (BOOK, Draft(BOOK, "u")):
            for function in (line, line.lost, lambda told: told >> line):
                with self.assertRaises(NoDocument) as caught:
                    function(value)
                self.assertIs(caught.exception.value, value)

    def test_no_reading(self):
        line = Line(BOOK, "b") >> Line(BOOK, "a") >> Line(BOOK, "n")
        for document, came in (({"x": 10}, {"x": 10}), (5, 5), ({"x": 1, "y": "", "z": 1}, {"x": 1, "y": ""}),
                               ({"x": 1, "z": 1}, {"x": 1})):
            self.refused(NoReading, came, line, document)
            self.refused(NoReading, came, line.lost, document)
            with self.assertRaises(NoReading) as caught:
                document >> line
            self.same(caught.exception.value, came)

    def test_what_is_told_is_new(self):
        line = Line(NESTED, "l") >> Line(NESTED, "l")
        document = [{"x": 1, "z": []}]
        told = line(document)
        told[0]["x"] = 7
        told.append(8)
        self.same(document, [{"x": 1, "z": []}])
        self.same(line(document), [{"x": 1}])


class TestLost(Asking):

    def test_rows(self):
        rows = [("n", 1, ()), ("a", {"x": 1}, ()), ("a", {"x": 1, "z": 1, "b": {"c": 1}}, (("b",), ("z",))),
                ("l", [{"x": 1}, {"y": 1, "x": 1}, {"x": 0, "a": [], "w": 1}], ((1, "y"), (2, "a"), (2, "w"))),
                ("o", {"l": [{"x": 1, "l": []}], "q": {"l": 1}, "r": {"a": {"x": 2, "a": {}}}},
                 (("l", 0, "l"), ("q",), ("r", "a", "a"))),
                ("g", {"k": "one", "z": 1, "l": [{"x": 1, "k": 1}]}, (("l", 0, "k"), ("z",))),
                ("u", {"k": "two", "a": {"x": 1, "k": "two"}}, (("a", "k"),)), ("u", [{"x": 1, "z": 1}], ((0, "z"),)),
                ("l", [{"x": 1, "z": 1}] * 11, tuple((at, "z") for at in range(11)))]
        for kind, document, right in rows:
            line = Line(NESTED, kind)
            self.same(line.lost(document), (right,))
            self.same(line.lost(document=document), (right,))

    def test_station_by_station(self):
        wide = Book(WIDE)
        line = Line(wide, "a") >> Line(BOOK, "u") >> Line(BOOK, "a")
        self.same(line.lost({"x": 1, "z": 1}), ((("z",),), (), ()))
        line = Line(Book("record o open\n  x t ?\n  y t\ntext t"), "o") >> Line(BOOK, "u")
        self.refused(NoReading, {"x": "", "y": ""}, line.lost, {"x": "", "y": "", "z": 1})
        line = Line(BOOK, "b") >> Line(wide, "a") >> Line(BOOK, "u")
        self.same(line.lost({"x": 1, "y": "", "z": []}), ((("z",),), (("y",),), ()))

    def test_what_is_handed_in_again(self):
        book = Book("none n\nlist l u 0 *\neither u n l r\nrecord r open")
        document = deep(300, {"z": 1})
        told = Line(book, "u").lost(document)
        self.same(told, (((0,) * 300 + ("z",),),))
        self.same(Line(book, "u")(document), deep(300, {}))

    def test_many_books(self):
        source = random.Random(131)
        several = fell = 0
        for _ in range(60):
            forms = plainly.some_forms(source)
            others = plainly.other_forms(source, forms)
            book, other = book_of(forms), book_of(others)
            documents = plainly.documents(forms, 3)
            for _ in range(60):
                document = came = source.choice(documents)
                stations = []
                for _ in range(source.randint(1, 3)):
                    both = source.choice(((forms, book), (others, other)))
                    fitting = plainly.lot(both[0], came) if came is not None else ()
                    kind = source.choice(fitting if fitting and source.random() < 0.9 else sorted(both[0]))
                    stations.append((both, kind))
                    reading = plainly.first(both[0], kind, came)
                    came = None if reading is None else plainly.written(both[0], reading)
                line = Line(stations[0][0][1], stations[0][1])
                for both, kind in stations[1:]:
                    line = line >> Line(both[1], kind)
                told = self.looked_at(line, stations, document)
                several += told is not None and len(told) > 1
                fell += told is not None and any(told)
        self.assertGreater(min(several, fell), 100)

    def looked_at(self, line, stations, document):
        """What is lost, None if it is not read, as the plain look tells it."""
        rows = []
        came = document
        for (forms, book), kind in stations:
            reading = plainly.first(forms, kind, came)
            if reading is None:
                self.refused(NoReading, came, line, document)
                self.refused(NoReading, came, line.lost, document)
                return None
            paths = sorted(plainly.fallen(forms, reading, came))
            further = plainly.written(forms, reading)
            left = came
            for path in paths:
                left = plainly.without(left, path)
            self.same(left, further)
            self.same(passed(book, kind, came), further)
            rows.append(tuple(paths))
            came = further
        self.same(line(document), came)
        self.same(document >> line, came)
        self.same(line.lost(document), tuple(rows))
        self.assertTrue(is_document(came))
        return rows


if __name__ == "__main__":
    unittest.main()
