"""Section 17, journals: the lines of a shelf, and what is read from them."""

import random
import unittest

import greats
from asking import TEXT, WIDE, Asking, deep, deeper
from tagless import journals as module
from tagless.books import Book
from tagless.errors import BadJournal, NothingToRedo, NothingToUndo
from tagless.journals import read_journal
from tagless.shelf import Shelf

BOOK = Book(TEXT)

LINES = "|" + TEXT.replace("\n", "|")

SETTLED = LINES.replace("b open", "b").replace("  y t ?", "  y t")

FIRST = "shelf " + LINES

NO_DEEDS = ["", " ", "put", "put ", "put u", "put u ", "put u {}", "put u {x: 1} ", "put  u {x: 1}", "put u  {x: 1}", " put u {x: 1}",
            "Put u {x: 1}", "put u {x:1}", "put u {x: 01}", "put u {x: -0}", "put u {x: 1, x: 1}", "put u {y: \"\", x: 1}", "put U {x: 1}",
            "put zz {x: 1}", "put 1 {x: 1}", "put toolongname {x: 1}", "put u x", "put n 10", "put n yes", "put u\n{x: 1}", "put n 1\n",
            "put: n 1", "lay", "lay ", "lay " + TEXT, "lay |", "lay |int", "lay " + LINES + " ", "lay " + LINES + "|", "lay  " + LINES,
            "lay whole", "lay whole ", "lay whole  " + LINES, "lay Whole " + LINES, "lay whole whole " + LINES, "lay " + LINES[1:],
            "lay |none n|none n", "lay |either u u n|none n", "lay |list l t 0 *", "lay |int n 0 9\ntext t", "lay |int n 0 9\n|text t",
            "lay |text t", "lay ||text t", "lay whole |text t", "pass_on", "pass_on ", "pass_on 1", "pass_on 00", "pass_on -0", "pass_on -1",
            "pass_on 0 ", "pass_on  0", "pass_on x", "pass_on 0 0", "pass_on 0x0", "pass_on +0", "pass_on 1234567890", "pass_on 0\n", "pass on 0",
            "passon 0", "take", "take ", "take 1", "take 00", "take -1", "take 0.", "take 0 ", "take 0\n", "take yes", "take \"0\"", "undo", "redo", "show 0",
            "shelf " + LINES, FIRST, "take\t0", "keep", "lay wholly " + LINES, "put n 0 1", "put t \"\\a\"", "put t \"", "put n \"1\""]


class TestJournals(Asking):

    def test_lines(self):
        shelf = Shelf(BOOK)
        shelf.put("u", {"y": 'a"\\', "x": 1, "q": [None, True]})
        shelf.put("t", "x: {")
        shelf.lay(BOOK)
        shelf.lay(Book(TEXT + "\nnone zz"))
        shelf.pass_on(0)
        shelf.take(1)
        lines = (FIRST, 'put u {q: [-, yes], x: 1, y: "a\\"\\\\"}', 'put t "x: {"', "lay " + LINES, "lay " + LINES + "|none zz", "pass_on 0", "take 1")
        self.same(shelf.journal, lines)
        again = read_journal(lines)
        self.assertTrue(again == shelf)
        self.same(again.journal, lines)
        self.same([again.document_at(0), again.edition_at(0), again.numbers], [{"x": 1, "y": 'a"\\'}, 0, (0,)])
        self.assertTrue(read_journal(lines=lines) == shelf)

    def test_whole(self):
        shelf = Shelf(Book(SETTLED[1:].replace("|", "\n")))
        shelf.lay(shelf.editions[0], whole=True)
        self.same(shelf.journal, ("shelf " + SETTLED, "lay whole " + SETTLED))
        again = read_journal(shelf.journal)
        self.same(again.deeds, (("lay", SETTLED[1:].replace("|", "\n"), True),))
        self.refused(BadJournal, 2, read_journal, ("shelf " + SETTLED, "lay whole " + SETTLED.replace("n 0 9", "n 1 9")))
        self.refused(BadJournal, 2, read_journal, (FIRST, "lay whole " + LINES))

    def test_they_can_be_taken_back(self):
        shelf = read_journal((FIRST, "put n 1", "put n 2", "take 0"))
        self.refused(NothingToRedo, None, shelf.redo)
        shelf.undo()
        self.same(shelf.numbers, (0, 1))
        shelf.undo()
        shelf.undo()
        self.refused(NothingToUndo, None, shelf.undo)
        shelf.redo()
        self.same([shelf.numbers, shelf.journal], [(0,), (FIRST, "put n 1")])

    def test_what_is_no_tuple(self):
        for value in (None, True, 0, "", FIRST, [], [FIRST], {}, {FIRST: 1}, deep(90)):
            self.refused(BadJournal, 0, read_journal, value)

    def test_the_first_line(self):
        self.refused(BadJournal, 1, read_journal, ())
        for line in (None, 1, True, (), (FIRST,), [FIRST], "", "shelf", "shelf ", "shelf |", LINES, "Shelf " + LINES, "shelf  " + LINES, " " + FIRST,
                     "shelf" + LINES, "shelf " + TEXT, "shelf " + LINES[1:], FIRST + "|", FIRST + " ", "shelf ||int n 0 9", "shelf |int n 9 0",
                     "shelf |list l t 0 *", "shelf |either u u t|text t", "shelf |int n 0 9\n|text t", "shelf |int n 0 9\ntext t", FIRST + "\n",
                     "put n 1", "lay " + LINES, deeper(90), "shelf whole " + LINES):
            self.refused(BadJournal, 1, read_journal, (line,))
            self.refused(BadJournal, 1, read_journal, (line, "put n 1", None))

    def test_further_lines(self):
        for line in NO_DEEDS + [None, True, 0, (), ("take 0",), ["take 0"], {}, deep(90)]:
            self.refused(BadJournal, 3, read_journal, (FIRST, "put n 0", line))
            self.refused(BadJournal, 3, read_journal, (FIRST, "put n 0", line, None, "take 0"))
        right = ["put n 9", 'put t ""', "lay " + LINES, "lay |int n 0 9", "pass_on 0", "take 0", "put u {x: 1, z: {yes: -}}"]
        for line in right:
            self.assertEqual(read_journal((FIRST, "put n 0", line)).journal[2], line)

    def test_deeds_that_are_refused(self):
        rows = [("put u {x: 1, z: -}", "pass_on 0"), ("take 0", "take 0"), ("take 0", "pass_on 0"), ("put n 9", "lay |int n 0 8"),
                ("lay |int n 0 99", "put u {x: 1}"), ("lay |int n 0 99|none z", "lay |text t")]
        for one, other in rows[:1]:
            self.refused(BadJournal, 3, read_journal, (FIRST, one, other))
        for one, other in rows[1:]:
            self.refused(BadJournal, 4, read_journal, (FIRST, "put n 0", one, other, "zz"))
        text = greats.text_with(*greats.great("q", 501), "either h n q").replace("\n", "|")
        self.refused(BadJournal, 2, read_journal, ("shelf |" + text, "lay whole |" + text.replace("either h n q", "either h n r")))

    def test_numbers_given_again(self):
        shelf = Shelf(BOOK)
        for _ in range(12):
            shelf.put("n", 1)
        for number in range(11):
            shelf.take(number)
        shelf.undo()
        self.same(read_journal(shelf.journal).numbers, (10, 11))
        self.assertIn("take 9", shelf.journal)

    def test_it_is_defined_in_the_file(self):
        self.assertEqual(read_journal.__module__, module.__name__)

    def test_one_sign_otherwise(self):
        source = random.Random(173)
        lines = (FIRST, 'put u {x: 1, y: "a"}', "put n 5", "lay " + LINES, "pass_on 0", "take 1", "put n 7", "pass_on 2")
        right = read_journal(lines)
        same = refused = 0
        for _ in range(1500):
            at = source.randrange(len(lines))
            place = source.randrange(len(lines[at]))
            sign = source.choice(' |0129nux:{}",-')
            other = lines[at][:place] + source.choice((sign, "", sign + lines[at][place])) + lines[at][place + 1:]
            changed = lines[:at] + (other,) + lines[at + 1:]
            try:
                shelf = read_journal(changed)
            except BadJournal as error:
                refused += 1
                self.assertGreaterEqual(error.value, at + 1)
                continue
            # What is read is told by just these lines.
            self.same(shelf.journal, changed)
            same += 1
            self.assertEqual(shelf == right, changed == lines)
        self.assertGreater(min(same, refused), 30)


if __name__ == "__main__":
    unittest.main()
