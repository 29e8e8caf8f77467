"""Section 16: documents and editions on a shelf, deeds taken back and done again, trials, and copies."""

import copy
import random
import unittest

import greats
import ledger
import plainly
from asking import NO_DOCUMENTS, NO_KINDS, TEXT, WIDE, Asking, book_of, deep, deeper
from tagless import errors
from tagless import shelf as module
from tagless.books import Book
from tagless.drafts import Draft
from tagless.errors import (BadEdition, BadTruth, Broken, NoDocument, NoKind, NoNumber, NoReading, NothingToRedo, NothingToUndo, NotKept,
                            NoTrial, TooLarge, Turned)
from tagless.growth import keeps
from tagless.journals import read_journal
from tagless.readings import decoded
from tagless.shelf import Shelf
from tagless.texts import show_document

BOOK = Book(TEXT)

WIDE_BOOK = Book(WIDE)

EXTRA = {"x": 1, "y": "", "z": []}

NO_NUMBERS = [None, True, False, -1, 3, 10 ** 30, "0", "", (), (0,), [], [0], {}, {0: 0}, deep(90), deeper(90)]


def shelf_with(*rows, book=BOOK):
    shelf = Shelf(book)
    for kind, document in rows:
        shelf.put(kind, document)
    return shelf


def all_of(shelf):
    """All that can be asked of a shelf, but for what can be undone and done again."""
    rows = [(number, shelf.kind_at(number), shelf.document_at(number), shelf.reading_at(number), shelf.edition_at(number))
            for number in shelf.numbers]
    return rows, shelf.deeds, [book.text for book in shelf.editions], len(shelf), shelf.numbers, shelf.journal


def far_and_back(shelf):
    """All states that undo and redo lead to."""
    told = [all_of(shelf)]
    while True:
        try:
            shelf.redo()
        except NothingToRedo:
            break
        told.append(all_of(shelf))
    many = len(told) - 1
    undone = 0
    while True:
        try:
            shelf.undo()
        except NothingToUndo:
            break
        undone += 1
        told.append(all_of(shelf))
    for _ in range(undone - many):
        shelf.redo()
    return told


class TestDeeds(Asking):

    def test_it_is_defined_in_the_file(self):
        self.assertEqual(Shelf.__module__, module.__name__)
        for name in "put lay pass_on take document_at kind_at reading_at edition_at numbers editions deeds journal __contains__ __len__ " \
                    "undo redo trial keep tried copy __eq__".split():
            self.assertIn(name, vars(Shelf))

    def test_an_empty_shelf(self):
        shelf = Shelf(book=BOOK)
        self.same([shelf.numbers, shelf.deeds, len(shelf), shelf.journal], [(), (), 0, ("shelf |" + TEXT.replace("\n", "|"),)])
        self.assertEqual(len(shelf.editions), 1)
        self.assertTrue(shelf.editions[0] == BOOK)
        self.assertIs({} in shelf, False)

    def test_put(self):
        shelf = Shelf(BOOK)
        self.same(shelf.put("u", EXTRA), 0)
        self.same(shelf.put(kind="n", document=9), 1)
        self.same(shelf.put("u", EXTRA), 2)
        self.same([shelf.numbers, len(shelf)], [(0, 1, 2), 3])
        self.same([shelf.kind_at(0), shelf.document_at(0), shelf.reading_at(0), shelf.edition_at(0)],
                  ["u", EXTRA, decoded(BOOK, "u", EXTRA), 0])
        self.same([shelf.kind_at(number=1), shelf.document_at(number=1), shelf.reading_at(number=1), shelf.edition_at(number=1)],
                  ["n", 9, ("n", 9), 0])
        self.same(shelf.deeds, (("put", "u", EXTRA), ("put", "n", 9), ("put", "u", EXTRA)))

    def test_put_what_is_refused(self):
        shelf = shelf_with(("n", 1))
        shelf.undo()
        for kind in NO_KINDS:
            if kind != "u":
                self.refused(NoKind, kind, shelf.put, kind, (1,))
        for value in NO_DOCUMENTS:
            self.refused(NoDocument, value, shelf.put, "u", value)
        for kind, document in (("n", 10), ("n", True), ("a", EXTRA), ("u", {}), ("g", {"k": "three"}), ("t", ["a"])):
            self.refused(NoReading, document, shelf.put, kind, document)
        self.same([shelf.deeds, len(shelf)], [(), 0])
        shelf.redo()
        self.same(shelf.document_at(0), 1)

    def test_the_newest_edition_reads(self):
        shelf = Shelf(BOOK)
        other = Book("bool c\nint n 0 99")
        self.same(shelf.lay(other), 1)
        self.refused(NoKind, "u", shelf.put, "u", {"x": 1})
        self.same([shelf.put("n", 99), shelf.put("c", True)], [0, 1])
        self.same([shelf.edition_at(0), shelf.edition_at(1)], [1, 1])
        self.refused(Broken, 0, shelf.lay, BOOK)

    def test_take(self):
        shelf = shelf_with(("n", 1), ("n", 2), ("n", 3))
        self.assertIsNone(shelf.take(1))
        self.same([shelf.numbers, len(shelf), shelf.put("n", 4)], [(0, 2), 2, 3])
        self.refused(NoNumber, 1, shelf.take, 1)
        self.assertIsNone(shelf.take(number=0))
        self.same([shelf.numbers, shelf.deeds[3:]], [(2, 3), (("take", 1), ("put", "n", 4), ("take", 0))])

    def test_no_number(self):
        shelf = shelf_with(("n", 1), ("n", 2), ("n", 3))
        for number in NO_NUMBERS:
            for function in (shelf.take, shelf.pass_on, shelf.document_at, shelf.kind_at, shelf.reading_at, shelf.edition_at):
                self.refused(NoNumber, number, function, number)
        shelf.take(1)
        for function in (shelf.take, shelf.pass_on, shelf.document_at, shelf.kind_at, shelf.reading_at, shelf.edition_at):
            self.refused(NoNumber, 1, function, 1)

    def test_what_is_on_it(self):
        shelf = shelf_with(("u", EXTRA), ("n", 1))
        for value, right in ((EXTRA, True), ({"z": [], "y": "", "x": 1}, True), (1, True), (True, False), ({"x": 1, "y": ""}, False),
                             ({**EXTRA, "x": True}, False), (2, False), ((1,), False), ([1], False), (None, False), ("u", False),
                             (deep(90), False), (deeper(90), False), ({1: 1}, False)):
            self.assertIs(value in shelf, right, value)
        shelf.pass_on(0)
        self.assertIs(EXTRA in shelf, False)
        self.assertIs({"x": 1, "y": ""} in shelf, True)
        shelf.take(1)
        self.assertIs(1 in shelf, False)

    def test_copies(self):
        document = {"x": 1, "z": [1]}
        shelf = shelf_with(("u", document))
        document["z"].append(2)
        for told in (shelf.document_at(0), shelf.deeds[0][2]):
            self.same(told, {"x": 1, "z": [1]})
            told["z"].append(3)
            told["x"] = 7
        self.same([shelf.document_at(0), shelf.deeds[0][2], shelf.journal[1]], [{"x": 1, "z": [1]}, {"x": 1, "z": [1]}, "put u {x: 1, z: [1]}"])


class TestEditions(Asking):

    def test_lay(self):
        shelf = shelf_with(("n", 5))
        wider = Book(TEXT.replace("n 0 9", "n 0 99"))
        self.same(shelf.lay(wider), 1)
        self.same(shelf.lay(newer=BOOK, whole=False), 2)
        self.same(shelf.lay(wider, whole=False), 3)
        self.assertEqual([book.text for book in shelf.editions], [TEXT, wider.text, TEXT, wider.text])
        self.same(shelf.deeds[1:], (("lay", wider.text, False), ("lay", TEXT, False), ("lay", wider.text, False)))
        self.same([shelf.edition_at(0), shelf.put("n", 50), shelf.edition_at(1)], [0, 1, 3])

    def test_what_is_no_edition(self):
        shelf = shelf_with(("n", 5))
        for value in (None, True, 0, "", TEXT, (), [], {}, deep(90)):
            self.refused(BadEdition, value, shelf.lay, value)
            self.refused(BadEdition, value, shelf.lay, value, whole=None)
        for value in (shelf, Draft(BOOK, "u"), (BOOK,), [BOOK], {"u": BOOK}):
            with self.assertRaises(BadEdition) as caught:
                shelf.lay(value)
            self.assertIs(caught.exception.value, value)
        for whole in (None, 0, 1, "", "yes", (), (True,), [], {}):
            self.refused(BadTruth, whole, shelf.lay, Book("none z"), whole=whole)
        with self.assertRaises(TypeError):
            shelf.lay(BOOK, True)
        self.same(len(shelf.deeds), 1)

    def test_broken(self):
        shelf = shelf_with(("t", ""), ("u", {"x": 1, "z": 1}), ("n", 9), ("u", {"x": 1}))
        for text, number in ((TEXT.replace("n 0 9", "n 0 8"), 2), (TEXT.replace("n 0 9", "n 3 9"), 1), ("none z", 0), ("text t", 1),
                             (TEXT.replace("u a b", "u b a"), 3), (TEXT.replace("b open", "b"), 1), (TEXT.replace("text t", "word t q"), 0),
                             (TEXT.replace("record a\n", "record a open\n"), 1), (TEXT.replace("either u a b", "either u a b n"), None),
                             (TEXT.replace("either u a b", "either u t a b"), None), (TEXT.replace("either u a b", "either u g a b"), None)):
            for whole in (False, True):
                if number is None:
                    continue
                self.refused(Broken, number, shelf.lay, Book(text), whole=whole)
            if number is None:
                shelf.lay(Book(text))
                shelf.undo()
        shelf.take(0)
        self.same(shelf.lay(Book("text t\n" + TEXT.replace("text t", "word z q").replace("y t", "y z"))), 1)

    def test_whole(self):
        shelf = Shelf(BOOK)
        # The book does not even keep itself: what b writes a reads.
        reading = keeps(BOOK, BOOK)[1]
        self.refused(NotKept, reading, shelf.lay, BOOK, whole=True)
        settled = Book(TEXT.replace("b open", "b").replace("  y t ?", "  y t"))
        self.same([shelf.lay(settled), shelf.lay(settled, whole=True)], [1, 2])
        narrow = Book(settled.text.replace("n 0 9", "n 1 9"))
        self.refused(NotKept, ("n", 0), shelf.lay, narrow, whole=True)
        shelf.put("n", 0)
        self.refused(Broken, 0, shelf.lay, narrow, whole=True)
        shelf.take(0)
        self.same(shelf.lay(narrow), 3)
        self.same(shelf.lay(settled, whole=True), 4)
        self.same(shelf.deeds[1:2] + shelf.deeds[-1:], (("lay", settled.text, True),) * 2)

    def test_too_large(self):
        text = greats.text_with(*greats.great("q", 501), "either h n q")
        shelf = Shelf(Book(text))
        newer = Book(text.replace("either h n q", "either h n r"))
        self.refused(TooLarge, 500, shelf.lay, newer, whole=True)
        self.same([shelf.deeds, shelf.lay(newer)], [(), 1])


class TestPassingOn(Asking):

    def test_what_it_tells(self):
        shelf = shelf_with(("b", EXTRA), ("n", 1))
        self.same([shelf.pass_on(0), shelf.document_at(0), shelf.pass_on(number=0), shelf.pass_on(1)], [True, {"x": 1, "y": ""}, False, False])
        self.same(shelf.deeds[2:], (("pass_on", 0), ("pass_on", 0), ("pass_on", 1)))
        self.same([shelf.reading_at(0), shelf.edition_at(0), shelf.kind_at(0)], [decoded(BOOK, "b", EXTRA), 0, "b"])

    def test_documents_that_would_turn(self):
        shelf = shelf_with(("u", {"x": 1, "z": 1}), ("u", EXTRA), ("b", {"x": 1, "z": 1}))
        self.refused(Turned, 0, shelf.pass_on, 0)
        self.same([shelf.pass_on(1), shelf.pass_on(2), shelf.document_at(0)], [True, True, {"x": 1, "z": 1}])
        shelf = shelf_with(("u", {"x": 1, "y": 2}), book=WIDE_BOOK)
        self.same([shelf.pass_on(0), shelf.document_at(0)], [True, {"x": 1}])
        self.refused(Broken, 0, shelf.lay, Book("int n 2 9\nrecord a\n  x n\neither u a n"))
        self.same(shelf.lay(Book("int n 1 9\nrecord a\n  x n\neither u n a")), 1)

    def test_by_the_newest_edition(self):
        shelf = shelf_with(("a", {"x": 1, "y": 2}), book=Book("int n 0 9\nrecord a open\n  x n"))
        newer = Book("int n 0 9\nrecord a open\n  x n\n  y m ?\nbool m")
        self.refused(Broken, 0, shelf.lay, newer)
        newer = Book("int n 0 9\nrecord a open\n  x n\n  z n ?")
        self.same([shelf.lay(newer), shelf.pass_on(0), shelf.document_at(0), shelf.edition_at(0)], [1, True, {"x": 1}, 0])
        self.same(shelf.lay(Book("int n 0 9\nrecord a\n  x n")), 2)


class TestTakenBack(Asking):

    def test_undo_and_redo(self):
        shelf = Shelf(BOOK)
        self.refused(NothingToUndo, None, shelf.undo)
        self.refused(NothingToRedo, None, shelf.redo)
        shelf.put("u", EXTRA)
        shelf.put("b", EXTRA)
        shelf.pass_on(1)
        shelf.lay(Book(TEXT + "\nnone zz"))
        shelf.take(0)
        states = [all_of(shelf)]
        for _ in range(5):
            self.assertIsNone(shelf.undo())
            states.append(all_of(shelf))
        self.refused(NothingToUndo, None, shelf.undo)
        self.same(all_of(shelf), all_of(Shelf(BOOK)))
        for state in states[-2::-1]:
            self.assertIsNone(shelf.redo())
            self.same(all_of(shelf), state)
        self.refused(NothingToRedo, None, shelf.redo)

    def test_another_deed_ends_what_can_be_done_again(self):
        shelf = shelf_with(("n", 1), ("n", 2))
        shelf.undo()
        self.refused(NoReading, 10, shelf.put, "n", 10)
        self.refused(NoNumber, 1, shelf.take, 1)
        self.refused(BadEdition, None, shelf.lay, None)
        self.refused(Broken, 0, shelf.lay, Book("none n"))
        shelf.redo()
        shelf.undo()
        self.same(shelf.put("n", 3), 1)
        self.refused(NothingToRedo, None, shelf.redo)
        self.same(shelf.document_at(1), 3)

    def test_numbers_are_given_again(self):
        shelf = shelf_with(("n", 1), ("n", 2))
        shelf.take(1)
        self.same(shelf.put("n", 3), 2)
        shelf.undo()
        self.same(shelf.put("n", 4), 2)
        for _ in range(3):
            shelf.undo()
        self.same([shelf.put("n", 5), shelf.numbers], [1, (0, 1)])
        shelf.lay(BOOK)
        shelf.undo()
        self.same(shelf.lay(BOOK), 1)


class TestTrials(Asking):

    def test_left(self):
        shelf = shelf_with(("n", 1), ("n", 2))
        shelf.undo()
        kept = far_and_back(shelf.copy())
        with shelf.trial() as held:
            self.assertIs(held, shelf)
            held.put("n", 3)
            held.lay(Book(TEXT + "\nnone zz"))
            held.take(0)
            self.same(shelf.numbers, (1,))
        self.same(far_and_back(shelf), kept)

    def test_kept(self):
        shelf = shelf_with(("n", 1))
        with shelf.trial() as held:
            held.put("n", 2)
            self.assertIsNone(held.keep())
            held.put("n", 3)
        self.same([shelf.numbers, len(shelf.deeds)], [(0, 1, 2), 3])
        shelf.undo()
        self.same(shelf.numbers, (0, 1))

    def test_an_error_leaves_it(self):
        for first in (True, False):
            shelf = shelf_with(("n", 1))
            kept = far_and_back(shelf.copy())
            with self.assertRaises(KeyError):
                with shelf.trial() as held:
                    held.put("n", 2)
                    if first:
                        held.keep()
                    raise KeyError(1)
            self.same(far_and_back(shelf), kept)
            with self.assertRaises(NoNumber):
                with shelf.trial():
                    shelf.keep()
                    shelf.undo()
                    shelf.take(5)
            self.same(far_and_back(shelf), kept)
            self.refused(NoTrial, None, shelf.keep)

    def test_no_trial(self):
        shelf = shelf_with(("n", 1))
        self.refused(NoTrial, None, shelf.keep)
        with shelf.trial():
            pass
        self.refused(NoTrial, None, shelf.keep)
        shelf.trial()
        self.refused(NoTrial, None, shelf.keep)
        with shelf.trial():
            shelf.keep()
        self.refused(NoTrial, None, shelf.keep)

    def test_undo_goes_on_to_what_was_ahead(self):
        shelf = shelf_with(("n", 1), ("n", 2))
        kept = far_and_back(shelf.copy())
        with shelf.trial() as held:
            held.put("n", 3)
            for _ in range(3):
                held.undo()
            self.refused(NothingToUndo, None, held.undo)
            self.same(held.put("n", 4), 0)
        self.same(far_and_back(shelf), kept)
        with shelf.trial() as held:
            held.undo()
            held.keep()
        self.same(shelf.numbers, (0,))
        shelf.redo()
        self.same(far_and_back(shelf), kept)
        shelf.undo()
        with shelf.trial() as held:
            held.redo()
            self.same(held.numbers, (0, 1))
        self.same(shelf.numbers, (0,))
        shelf.redo()
        self.same(far_and_back(shelf), kept)

    def test_trials_within_trials(self):
        for outer in (True, False):
            for inner in (True, False):
                shelf = shelf_with(("n", 1))
                with shelf.trial() as held:
                    held.put("n", 2)
                    with held.trial() as further:
                        self.assertIs(further, shelf)
                        further.put("n", 3)
                        if inner:
                            further.keep()
                    self.same(shelf.numbers, (0, 1, 2) if inner else (0, 1))
                    held.put("n", 4)
                    if outer:
                        shelf.keep()
                self.same(shelf.numbers, ((0, 1, 2, 3) if inner else (0, 1, 2)) if outer else (0,))
        shelf = Shelf(BOOK)
        with shelf.trial():
            shelf.keep()
            with shelf.trial():
                shelf.put("n", 1)
            shelf.put("n", 2)
        self.same([shelf.numbers, shelf.document_at(0)], [(0,), 2])

    def test_one_trial_twice(self):
        shelf = Shelf(BOOK)
        trial = shelf.trial()
        with trial as held:
            held.put("n", 1)
            held.keep()
        with trial as held:
            held.put("n", 2)
        self.same(shelf.numbers, (0,))

    def test_tried(self):
        shelf = shelf_with(("n", 1))

        def look(held):
            self.assertIs(held, shelf)
            held.put("n", 2)
            return [held.numbers]

        for keep in (None, 0, 1, "yes", (), (True,), [True], {}, False):
            self.same(shelf.tried(look, keep=keep), [(0, 1)])
            self.same(shelf.numbers, (0,))
        self.same(shelf.tried(look=look), [(0, 1)])
        self.same(shelf.numbers, (0,))
        self.same([shelf.tried(look, keep=True), shelf.numbers], [[(0, 1)], (0, 1)])
        with self.assertRaises(TypeError):
            shelf.tried(look, True)

        def keeping(held):
            held.take(0)
            held.keep()

        self.assertIsNone(shelf.tried(keeping, keep=False))
        self.same(shelf.numbers, (1,))

        def failing(held):
            held.put("n", 3)
            held.keep()
            held.put("n", 10)

        self.refused(NoReading, 10, shelf.tried, failing, keep=True)
        self.same(shelf.numbers, (1,))
        self.refused(NoTrial, None, shelf.keep)
        self.same(shelf.tried(lambda held: held.tried(lambda other: other.put("n", 5), keep=True)), 2)
        self.same(shelf.numbers, (1,))
        self.same(shelf.tried(lambda held: held.tried(lambda other: other.put("n", 5), keep=True), keep=True), 2)
        self.same(shelf.numbers, (1, 2))


class TestCopies(Asking):

    def test_independent(self):
        shelf = shelf_with(("n", 1), ("u", EXTRA))
        shelf.undo()
        other = shelf.copy()
        self.assertTrue(other == shelf)
        self.same(far_and_back(other), far_and_back(shelf))
        other.redo()
        other.pass_on(1)
        self.same([shelf.numbers, other.numbers], [(0,), (0, 1)])
        shelf.redo()
        self.same([shelf.document_at(1), other.document_at(1)], [EXTRA, {"x": 1, "y": ""}])
        self.assertFalse(other == shelf)

    def test_made_within_a_trial(self):
        shelf = shelf_with(("n", 1))
        with shelf.trial() as held:
            held.put("n", 2)
            other = held.copy()
            self.refused(NoTrial, None, other.keep)
            other.put("n", 3)
            self.same(held.numbers, (0, 1))
        self.same([shelf.numbers, other.numbers], [(0,), (0, 1, 2)])
        other.undo()
        other.undo()
        self.assertTrue(other == shelf)
        with shelf.trial() as held:
            held.keep()
            other = held.copy()
            with other.trial():
                other.put("n", 2)
        self.same(other.numbers, (0,))

    def test_equality(self):
        shelf = shelf_with(("n", 1), ("u", EXTRA))
        self.assertTrue(shelf == shelf_with(("n", 1), ("u", {"z": [], "y": "", "x": 1}), book=Book(TEXT)))
        self.assertFalse(shelf != shelf_with(("n", 1), ("u", {"z": [], "y": "", "x": 1}), book=Book(TEXT)))
        undone = shelf_with(("n", 1), ("u", EXTRA), ("n", 2))
        undone.undo()
        self.assertTrue(shelf == undone)
        passed = shelf_with(("n", 1), ("u", EXTRA))
        passed.pass_on(1)
        laid = shelf_with(("n", 1), ("u", EXTRA))
        laid.lay(BOOK)
        for other in (shelf_with(("n", 1)), shelf_with(("u", EXTRA), ("n", 1)), shelf_with(("n", 1), ("b", EXTRA)), passed, laid, undone.journal,
                      shelf_with(("n", 1), ("u", {**EXTRA, "z": [None]}), book=BOOK), shelf_with(("n", 1), ("u", EXTRA), book=Book(TEXT + "\nnone zz")),
                      None, BOOK, (), shelf.deeds, [shelf], Draft(BOOK, "u"), shelf_with(("n", 1), ("u", {**EXTRA, "z": [[]]}))):
            self.assertFalse(shelf == other)
            self.assertTrue(shelf != other)
        one, other = Shelf(Book("record r open")), Shelf(Book("record r open"))
        one.put("r", {"x": 1})
        other.put("r", {"x": True})
        self.assertFalse(one == other)
        laid, whole = Shelf(WIDE_BOOK), Shelf(WIDE_BOOK)
        kept = Book(WIDE.replace("u a c", "u c a"))
        laid.lay(kept)
        whole.lay(kept)
        self.assertTrue(laid == whole)
        laid.lay(kept)
        whole.lay(kept, whole=True)
        self.assertFalse(laid == whole)


class Leave(Exception):
    pass


class TestLedger(Asking):
    """Drawn rows of deeds, undo, redo and trials, on a shelf and in a plain ledger beside it."""

    def test_many_rows(self):
        self.counts = {}
        for seed in range(120):
            self.source = random.Random(1600 + seed)
            self.forms = plainly.some_forms(self.source)
            if seed % 3 == 0:
                book = Book(TEXT)
                self.forms = {name: book[name].form for name in book.names}
            self.pool = plainly.documents(self.forms, 3)
            book = book_of(self.forms)
            self.shelf, self.plain = Shelf(book), ledger.Ledger(book.text, self.forms)
            self.many_steps(60, 0)
            self.compare(True)
        for name in ("put", "lay", "pass_on", "take", "undo", "redo", "Broken", "NotKept", "Turned", "NoReading", "NoNumber", "NothingToUndo",
                     "NothingToRedo", "trial", "kept", "failed", "copy"):
            self.assertGreater(self.counts.get(name, 0), 20, (name, self.counts))

    def many_steps(self, many, depth):
        for _ in range(many):
            if depth < 3 and self.source.random() < 0.06:
                self.one_trial(depth)
            else:
                self.one_step()
            self.compare(self.source.random() < 0.1)

    def count(self, name):
        self.counts[name] = self.counts.get(name, 0) + 1

    def one_trial(self, depth):
        self.count("trial")
        failed = self.source.random() < 0.3
        self.plain.enter()
        try:
            with self.shelf.trial() as held:
                self.assertIs(held, self.shelf)
                self.many_steps(self.source.randint(0, 8), depth + 1)
                if self.source.random() < 0.5:
                    self.count("kept")
                    held.keep()
                    self.plain.keep()
                    self.many_steps(self.source.randint(0, 2), depth + 1)
                if failed:
                    self.count("failed")
                    raise Leave()
        except Leave:
            pass
        self.plain.leave(failed)

    def one_step(self):
        word = self.source.choice(["put"] * 5 + ["pass_on"] * 4 + ["take", "undo", "undo", "redo", "redo", "lay", "lay", "keep", "copy"])
        if word == "copy":
            self.count("copy")
            other = self.shelf.copy()
            self.assertTrue(other == self.shelf)
            self.refused(NoTrial, None, other.keep)
            if not self.plain.trials:
                self.shelf = other
            return
        if word == "put":
            document = self.source.choice(self.pool[len(self.pool) // 20:])
            fitting = plainly.lot(self.plain.newest(), document)
            unions = [name for name in fitting if self.plain.newest()[name][0] == "either"]
            kind = self.source.choice(unions or fitting if fitting and self.source.random() < 0.9 else sorted(self.forms))
            self.both(word, (kind, document), (kind, document), {})
        elif word == "lay":
            forms = self.forms if self.source.random() < 0.3 else plainly.other_forms(self.source, self.plain.newest())
            newer = book_of(forms)
            whole = self.source.random() < 0.4
            kept = keeps(self.shelf.editions[-1], newer) if whole else None
            self.both(word, (newer,), (newer.text, forms, whole, kept), {"whole": whole})
        elif word in ("pass_on", "take"):
            number = self.source.randint(0, self.plain.state["coming"])
            if self.source.random() < 0.8:
                number = self.source.choice(sorted(self.plain.state["documents"]) or [0])
            self.both(word, (number,), (number,), {})
        elif word != "keep" or not self.plain.trials:
            self.both(word, (), (), {})

    def both(self, word, arguments, plain, named):
        """The same call of the shelf and of the ledger."""
        try:
            right = getattr(self.plain, word)(*plain)
        except ledger.Refused as refused:
            name, value = refused.told
            self.count(name)
            with self.assertRaises(getattr(errors, name)) as caught:
                getattr(self.shelf, word)(*arguments, **named)
            self.same(caught.exception.value, value)
            return
        self.count(word)
        self.same(getattr(self.shelf, word)(*arguments, **named), right)

    def compare(self, fully):
        state, shelf = self.plain.state, self.shelf
        self.same([shelf.numbers, len(shelf), shelf.deeds], [tuple(sorted(state["documents"])), len(state["documents"]), tuple(state["deeds"])])
        for number, row in state["documents"].items():
            self.same([shelf.kind_at(number), shelf.document_at(number), shelf.reading_at(number), shelf.edition_at(number)], row)
            self.same(plainly.first(self.plain.newest(), row[0], row[1]), row[2])
            self.assertIn(row[1], shelf)
        self.assertEqual([book.text for book in shelf.editions], [text for text, _ in state["editions"]])
        self.same(shelf.journal, self.plain.journal(show_document))
        if fully:
            again = read_journal(shelf.journal)
            self.assertTrue(again == shelf)
            self.same(all_of(again), all_of(shelf))
            self.refused(NothingToRedo, None, again.redo)
            self.same(self.undone(again), self.undone(shelf.copy()))
            self.assertEqual(len(self.undone(shelf.copy())), len(self.plain.back))
            self.assertEqual(len(self.redone(shelf.copy())), len(self.plain.further))
            self.same(self.redone(shelf.copy()), [tuple(row["deeds"]) for row in self.plain.further[::-1]])

    def undone(self, shelf):
        told = []
        while shelf.deeds:
            shelf.undo()
            told.append(all_of(shelf))
        self.refused(NothingToUndo, None, shelf.undo)
        return told

    def redone(self, shelf):
        told = []
        while True:
            try:
                shelf.redo()
            except NothingToRedo:
                return told
            told.append(shelf.deeds)

    def test_nothing_that_is_handed_in_is_kept(self):
        document = {"x": 1, "z": [{"q": 1}]}
        shelf = shelf_with(("u", document))
        kept = copy.deepcopy(document)
        document["z"][0]["q"] = 2
        self.same(shelf.document_at(0), kept)
        shelf.undo()
        shelf.redo()
        told = shelf.document_at(0)
        told["z"].append(1)
        self.same(shelf.document_at(0), kept)
        self.same(shelf.copy().document_at(0), kept)


if __name__ == "__main__":
    unittest.main()
