"""Section 9: whether what is written is read back."""

import random
import unittest

import greats
import plainly
from asking import NO_ANSWERS, NO_KINDS, TEXT, WIDE, Asking, book_of, deep, deeper
from plainly import ALL
from tagless.back import reads_back, shows_back
from tagless.books import Book
from tagless.errors import NoKind, TooLarge
from tagless.single import single

BOOK = Book(TEXT)

# Rows (text, kind, size of a least written form that is lost, None if there is none).
ROWS = [
    (TEXT, "u", 2), (TEXT, "g", None), (TEXT, "b", None), (WIDE, "u", 3),
    (WIDE.replace("u a c", "u c a"), "u", None), ("int n 0 9\nrecord a open\n  x n\nrecord c\n  x n\n  y n ?\neither u c a", "u", 2),
    ("none n\nbool m\neither u n m", "u", None), ("none n\nnone m\neither u n m", "u", 1),
    # Written by b it never has an extra, and by a it never lacks one.
    ("none n\nrecord a\n  x n\nrecord b open\neither u a b", "u", None),
    ("none n\nrecord a\n  x n\nrecord b open\neither u b a", "u", 2),
    ("none n\nrecord a\n  x n\nrecord b open\nlist v u 2 *\neither u b a", "v", 4),
    ("none n\nrecord a\n  x n\nrecord b open\nrecord c\n  y u ?\n  z n\neither u b a", "c", 4),
    ("none n\nrecord a\n  x n\nrecord b open\nlist v u 0 0\neither u b a", "v", None),
    ("none n\nrecord a\n  x n\nrecord b open\nrecord c\n  y u\ntagged g k\n  p c\neither u b a", "g", 4),
    ("record r open\ntagged g k\n  p r\neither u r g", "u", 2), ("record r open\ntagged g k\n  p r\neither u g r", "u", None),
    ("record r open\n  x e\nrecord e\n  x e\nnone n\neither u r n", "u", None),
    ("list l n 0 *\nlist k m 0 *\nnone n\nbool m\neither u l k", "u", 1), ("list l n 1 *\nlist k m 0 *\nnone n\nbool m\neither u l k", "u", None),
]


class TestBack(Asking):

    def test_rows(self):
        for text, kind, right in ROWS:
            book = Book(text)
            forms = {name: book[name].form for name in book.names}
            told = reads_back(book, kind)
            if right is None:
                self.assertEqual((told[0], len(told)), ("back", 3), (text, kind))
            else:
                self.assertEqual((told[0], len(told)), ("lost", 2), (text, kind))
                self.assertEqual(plainly.size(plainly.written(forms, told[1])), right, (text, kind, told))
            self.assertTrue(plainly.shows_back(forms, kind, told), (text, kind, told))
            self.assertIs(shows_back(book, kind, told), True)

    def test_a_kind_can_read_back_with_several_readings(self):
        book = Book("none n\nrecord a\n  x n\nrecord b open\neither u a b")
        self.assertEqual((single(book, "u")[0], reads_back(book, "u")[0]), ("two", "back"))

    def test_arguments(self):
        self.same(reads_back(book=BOOK, kind="u"), ("lost", ("u", "b", ("b", (("x", ("n", 0)),)))))
        self.assertIs(shows_back(book=BOOK, kind="u", value=reads_back(BOOK, "u")), True)
        for kind in NO_KINDS:
            self.refused(NoKind, kind, reads_back, BOOK, kind)
            self.refused(NoKind, kind, shows_back, BOOK, kind, None)

    def test_least_written_forms_of_500_parts_are_told(self):
        lines = [greats.great(name, parts) for name, parts in (("q", 500), ("o", 500), ("s", 501), ("t", 501))]
        book = Book(greats.text_with(*sum(lines, []), "either e q o", "either f s t"))
        forms = {name: book[name].form for name in book.names}
        told = reads_back(book, "e")
        self.assertEqual((plainly.size(plainly.written(forms, told[1])), told[1][1]), (500, "o"))
        self.refused(TooLarge, 500, reads_back, book, "f")
        fields = tuple(sorted(told[1][2][1] + (("u", ("n", None)),)))
        self.assertIs(shows_back(book, "f", ("lost", ("f", "t", ("t", fields)))), True)
        self.assertIs(shows_back(book, "f", ("lost", ("f", "s", ("s", fields)))), False)

    def test_a_deep_reading(self):
        lines = ["none n", "record o open", "list z u 0 1", "either u o z n"]
        names = [first + second for first in "ab" for second in "abcdef"]
        for at, name in enumerate(names):
            lines.append(f"list {name} {(names[1:] + ['v'])[at]} 1 1")
        lines += ["tagged g k", "  p e", "record e", "either v o g"]
        book = Book("\n".join(lines))
        told = reads_back(book, names[0])
        self.assertEqual(told[0], "lost")
        self.assertIs(shows_back(book, names[0], told), True)


class TestAgainstAllSmallDocuments(Asking):

    def test_reads_back(self):
        source = random.Random(91)
        seen = {"back": 0, "lost": 0}
        for _ in range(50):
            forms = plainly.some_forms(source)
            closed = plainly.closed(forms)
            book = book_of(forms)
            documents = plainly.documents(forms, 3)
            for name in forms:
                told = reads_back(book, name)
                seen[told[0]] += 1
                lost = [document for document in documents
                        if any(plainly.lost(forms, reading) for reading in plainly.all_readings(closed, name, document))]
                self.assertTrue(plainly.shows_back(forms, name, told))
                if told[0] == "back":
                    self.assertEqual(lost, [])
                else:
                    many = plainly.size(plainly.written(forms, told[1]))
                    if lost or many <= 3:
                        self.assertEqual(many, plainly.size(lost[0]))
        self.assertGreater(min(seen.values()), 40)


class TestShows(Asking):

    def test_what_is_no_answer(self):
        for value in NO_ANSWERS + [deep(90), deeper(90), ("lost", deep(90)), ("lost", deeper(90))]:
            for kind in "nug":
                self.assertIs(shows_back(BOOK, kind, value), False, value)

    def test_readings(self):
        right = ("u", "b", ("b", (("x", ("n", 9)),)))
        self.assertIs(shows_back(BOOK, "u", ("lost", right)), True)
        wrong = [("u", "b", ("b", (("x", ("n", 9)), ("y", ("t", ""))))), ("u", "a", ("a", (("x", ("n", 9)),))),
                 ("b", (("x", ("n", 9)),)), ("u", "b", ("b", (("x", ("n", 10)),))), ("u", "b", ("b", ())), {"x": 9}, None]
        for reading in wrong:
            self.assertIs(shows_back(BOOK, "u", ("lost", reading)), False, reading)
        self.assertIs(shows_back(BOOK, "b", ("lost", right)), False)

    def test_pairs_of_the_earlier_any_with_the_later_written(self):
        book = Book("none n\nrecord a\n  x n\nrecord b open\neither u a b")
        pair = ((0, "a", "any", ""), (0, "b", "written", ""))
        names = ("a", "b", "n", "u")
        self.assertIs(shows_back(book, "u", ("back", names, (pair,))), True)
        self.assertIs(shows_back(book, "u", ("back", names, (((0, "a", "written", ""), (0, "b", "written", "")),))), False)
        self.assertIs(shows_back(book, "u", ("back", names, ())), False)
        self.assertIs(shows_back(book, "u", ("back", ("a", "b", "u"), (pair,))), False)
        self.assertIs(shows_back(book, "u", ("one", names, (pair,))), False)

    def test_an_empty_kind(self):
        book = Book("record e\n  f e")
        pair = (ALL, (0, "e", "any", ""))
        self.same(reads_back(book, "e"), ("back", (), (pair,)))
        self.assertIs(shows_back(book, "e", ("back", ("e",), ())), True)
        self.assertIs(shows_back(book, "e", ("back", (), ())), False)

    def test_one_thing_otherwise(self):
        source = random.Random(92)
        seen = {True: 0, False: 0}
        for _ in range(40):
            forms = plainly.some_forms(source)
            book = book_of(forms)
            for name in forms:
                told = reads_back(book, name)
                self.assertIs(shows_back(book, name, told), True)
                for _ in range(8):
                    value = plainly.otherwise(source, told)
                    right = plainly.shows_back(forms, name, value)
                    self.assertIs(shows_back(book, name, value), right, (name, value))
                    seen[right] += 1
        self.assertGreater(min(seen.values()), 100)


if __name__ == "__main__":
    unittest.main()
