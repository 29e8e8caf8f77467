"""Section 8: whether each document has one reading."""

import random
import unittest

import greats
import plainly
from asking import NO_ANSWERS, NO_KINDS, TEXT, Asking, book_of, deep, deeper
from plainly import ALL
from tagless.books import Book
from tagless.errors import NoKind, TooLarge
from tagless.single import shows_single, single

BOOK = Book(TEXT)

# Rows (text, kind, size of a least document with two readings, None if there is none).
ROWS = [
    (TEXT, "u", 2), (TEXT, "g", None), (TEXT, "n", None), (TEXT, "a", None),
    ("none n\nbool m\neither u n m", "u", None), ("none n\neither u n v\nbool m\neither v n m", "u", 1),
    ("none n\nnone m\neither u n m\nlist l u 0 *", "l", 2), ("none n\nnone m\neither u n m\nlist l u 0 0", "l", None),
    ("none n\nnone m\neither u n m\nlist l u 3 *", "l", 4), ("none n\nnone m\neither u n m\nlist l u 0 1\nlist k l 2 2", "k", 4),
    ("none n\nnone m\neither u n m\nrecord r\n  x u ?", "r", 2), ("none n\nnone m\neither u n m\nrecord r\n  x u ?\n  y n", "r", 3),
    ("none n\nnone m\neither u n m\nrecord r open\n  y n", "r", None),
    ("none n\nnone m\neither u n m\nrecord r\n  x u\n  y r", "r", None),
    ("none n\nnone m\neither u n m\nrecord r\n  x u ?\n  y r ?\n  z e\nrecord e\n  z e", "r", None),
    ("none n\nnone m\neither u n m\nrecord r\n  x u ?\ntagged g k\n  p r", "g", 3),
    ("none n\nnone m\neither u n m\nrecord r\n  x u ?\nrecord s\ntagged g k\n  p s\n  q r\nlist l g 2 2", "l", 6),
    ("record r\n  x r\nrecord s\n  x r\neither u r s", "u", None), ("record r\nrecord s open\n  x e\nrecord e\n  x e\neither u r s", "u", None),
    ("record r open\ntagged g k\n  p r\neither u r g", "u", 2), ("record r\ntagged g k\n  p r\neither u r g", "u", None),
    ("record r open\ntagged g k\n  p r\ntagged h k\n  p r\n  q r\neither u h g", "u", 2),
    ("record r open\ntagged g k\n  p r\ntagged h k\n  q r\neither u h g", "u", None),
    ("list l u 0 *\nlist k u 0 *\nnone n\neither u n l\neither v l k", "v", 1), ("list l u 0 *\nnone n\neither u n l", "u", None),
    ("list l v 1 1\nlist k v 1 1\nnone n\nnone m\neither v l n\neither w k m\neither u w v", "u", 1),
]


class TestSingle(Asking):

    def test_rows(self):
        for text, kind, right in ROWS:
            book = Book(text)
            forms = {name: book[name].form for name in book.names}
            told = single(book, kind)
            if right is None:
                self.assertEqual((told[0], len(told)), ("one", 3), (text, kind))
            else:
                self.assertEqual((told[0], plainly.size(told[1])), ("two", right), (text, kind))
            self.assertTrue(plainly.shows_single(forms, kind, told), (text, kind, told))
            self.assertIs(shows_single(book, kind, told), True)

    def test_arguments(self):
        self.same(single(book=BOOK, kind="u"), ("two", {"x": 0}))
        self.assertIs(shows_single(book=BOOK, kind="u", value=("two", {"x": 3})), True)
        for kind in NO_KINDS:
            self.refused(NoKind, kind, single, BOOK, kind)
            self.refused(NoKind, kind, shows_single, BOOK, kind, None)

    def test_an_empty_kind_is_not_among_the_names(self):
        book = Book("record e\n  f e\nnone n\nlist l e 0 *\neither u e n")
        self.same(single(book, "e"), ("one", (), ((ALL, (0, "e", "any", "")),)))
        self.assertEqual(single(book, "l")[1], ("l",))
        told = single(book, "u")
        self.assertEqual(told[:2], ("one", ("n", "u")))
        self.assertIn(((0, "e", "any", ""), (0, "n", "any", "")), told[2])

    def test_least_documents_of_500_parts_are_told(self):
        lines = [greats.great(name, parts) for name, parts in (("q", 500), ("o", 500), ("s", 501), ("t", 501))]
        book = Book(greats.text_with(*sum(lines, []), "either e q o", "either f s t"))
        self.assertEqual(plainly.size(single(book, "e")[1]), 500)
        self.refused(TooLarge, 500, single, book, "f")
        document = single(book, "e")[1]
        document["u"] = None
        self.assertIs(shows_single(book, "f", ("two", document)), True)

    def test_what_is_told_is_new(self):
        told = single(BOOK, "u")
        told[1]["x"] = 5
        self.same(single(BOOK, "u"), ("two", {"x": 0}))


class TestAgainstAllSmallDocuments(Asking):

    def test_single(self):
        source = random.Random(81)
        seen = {"one": 0, "two": 0}
        for _ in range(50):
            forms = plainly.some_forms(source)
            book = book_of(forms)
            documents = plainly.documents(forms, 3)
            for name in forms:
                told = single(book, name)
                seen[told[0]] += 1
                two = [document for document in documents if len(plainly.all_readings(forms, name, document)) > 1]
                self.assertTrue(plainly.shows_single(forms, name, told))
                if told[0] == "one":
                    self.assertEqual(two, [])
                elif two or plainly.size(told[1]) <= 3:
                    self.assertEqual(plainly.size(told[1]), plainly.size(two[0]))
        self.assertGreater(min(seen.values()), 40)


class TestShows(Asking):

    def test_what_is_no_answer(self):
        for value in NO_ANSWERS + [deep(90), deeper(90)]:
            for kind in "nug":
                self.assertIs(shows_single(BOOK, kind, value), False, value)

    def test_names(self):
        book = Book("none n\nbool m\nlist l n 0 0\nrecord r\n  x n\n  y m ?\nrecord e\n  x e\n  y l")
        empty = ((ALL, (0, "e", "any", "")),)
        rows = [("r", ("m", "n", "r"), (), True), ("r", ("l", "m", "n", "r"), (), True), ("r", ("n", "r"), (), False),
                ("r", ("m", "n"), (), False), ("r", ("r", "n", "m"), (), False), ("r", ["m", "n", "r"], (), False),
                ("r", ("m", "n", "n", "r"), (), False), ("r", ("m", "n", "r", "z"), (), False), ("l", ("l",), (), True),
                ("r", ("m", "n", "r", None), (), False), ("r", ("m", "n", "r"), empty, True), ("e", (), empty, True),
                ("e", (), (), False), ("e", ("e", "l"), (), True), ("e", ("e",), (), False), ("e", ("l",), empty, True),
                ("e", ("e",), empty, False), ("r", ("m", "n", "r"), ((ALL, (0, "n", "any", "")),), False),
                ("e", (), ((ALL, (0, "e", "written", "")),), False), ("r", ("m", "n", ["r"]), (), False)]
        for kind, names, pairs, right in rows:
            self.assertIs(shows_single(book, kind, ("one", names, pairs)), right, (kind, names, pairs))

    def test_pairs(self):
        book = Book("none n\nbool m\ntext t\neither u n m t")
        n, m, t = [(0, name, "any", "") for name in "nmt"]
        names = ("m", "n", "t", "u")
        self.assertIs(shows_single(book, "u", ("one", names, ((m, n), (m, t), (n, t)))), True)
        self.assertIs(shows_single(book, "u", ("one", names, ((m, n), (n, t)))), False)
        self.assertIs(shows_single(book, "u", ("one", names, ((m, n), (m, t), (n, t), (t, t)))), False)
        written = (0, "n", "written", "")
        self.assertIs(shows_single(book, "u", ("one", names, ((m, t), (m, written), (n, t)))), False)

    def test_documents(self):
        for document, right in (({"x": 0}, True), ({"x": 9}, True), ({"x": 10}, False), ({"x": True}, False), (0, False),
                                ({"x": 0, "z": 0}, False), ({"x": (0,)}, False), (None, False)):
            self.assertIs(shows_single(BOOK, "u", ("two", document)), right)
            self.assertIs(shows_single(BOOK, "g", ("two", document)), False)
        book = Book("none n\nrecord a open\nrecord b open\n  x n ?\neither u a b")
        for document, right in (({"z": 1}, True), ({"z": (1,)}, False), ({"Z": 1}, False), ({"z": {1: 1}}, False)):
            self.assertIs(shows_single(book, "u", ("two", document)), right)

    def test_one_thing_otherwise(self):
        source = random.Random(82)
        seen = {True: 0, False: 0}
        for _ in range(40):
            forms = plainly.some_forms(source)
            book = book_of(forms)
            for name in forms:
                told = single(book, name)
                self.assertIs(shows_single(book, name, told), True)
                for _ in range(8):
                    value = plainly.otherwise(source, told)
                    right = plainly.shows_single(forms, name, value)
                    self.assertIs(shows_single(book, name, value), right, (name, value))
                    seen[right] += 1
        self.assertGreater(min(seen.values()), 100)


if __name__ == "__main__":
    unittest.main()
