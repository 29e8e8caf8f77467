"""Section 10: sequences in which the members of an either are tried."""

import itertools
import random
import unittest

import greats
import plainly
from asking import NO_ANSWERS, NO_KINDS, TEXT, WIDE, Asking, book_of, deep, deeper
from tagless.back import reads_back
from tagless.books import Book
from tagless.errors import BadOrder, NoKind, NoOrder, NotEither, TooLarge
from tagless.orders import in_order, orders, settled, shows_orders

BOOK = Book(TEXT)

WIDE_BOOK = Book(WIDE)

# Of five members three must stand ahead of others.
MANY = Book("int n 0 9\nrecord a open\nrecord b open\n  x n\nrecord c\n  x n\n  y n\ntext t\nbool o\neither u a t b o c")


class TestExamples(Asking):

    def test_the_examples_of_the_section(self):
        told = orders(WIDE_BOOK, "u")
        self.same([told[1:3], [row[:2] for row in told[3]], settled(WIDE_BOOK)["u"].members, orders(BOOK, "u")[0]],
                  [((1, 0), 1), [(1, 0)], ("c", "a"), "ring"])


class TestArguments(Asking):

    def test_by_name(self):
        told = orders(book=WIDE_BOOK, kind="u")
        self.same(told, orders(WIDE_BOOK, "u"))
        self.assertIs(shows_orders(book=WIDE_BOOK, kind="u", value=told), True)
        self.assertEqual(in_order(book=WIDE_BOOK, kind="u", numbers=(1, 0)).text, WIDE.replace("u a c", "u c a"))
        self.assertEqual(settled(book=WIDE_BOOK).text, WIDE.replace("u a c", "u c a"))

    def test_errors_in_their_sequence(self):
        for kind in NO_KINDS:
            self.refused(NoKind, kind, orders, BOOK, kind)
            self.refused(NoKind, kind, shows_orders, BOOK, kind, None)
            self.refused(NoKind, kind, in_order, BOOK, kind, None)
        for kind in "ntabg":
            self.refused(NotEither, kind, orders, BOOK, kind)
            self.refused(NotEither, kind, shows_orders, BOOK, kind, None)
            self.refused(NotEither, kind, in_order, BOOK, kind, None)
        for value in [None, True, 0, (), (0,), (0, 0), (1, 2), (0, 1, 2), [0, 1], (False, 1), (0, True), (0, None), "01",
                      ((0,), (1,)), {0: 1}, (0, [1]), deep(90), (-1, 0), ("0", "1")]:
            self.refused(BadOrder, value, in_order, BOOK, "u", value)

    def test_what_is_told_is_new(self):
        told = orders(WIDE_BOOK, "u")
        told[3][0][2]["x"] = None
        self.same(orders(WIDE_BOOK, "u")[3], ((1, 0, {"x": 0, "y": 0}),))


class TestOrders(Asking):

    def test_several_sequences(self):
        told = orders(MANY, "u")
        self.assertEqual(told[:3], ("safe", (1, 3, 4, 2, 0), 20))
        self.assertEqual([row[:2] for row in told[3]], [(2, 0), (4, 0), (4, 2)])
        self.assertEqual([plainly.size(row[2]) for row in told[3]], [2, 3, 3])
        self.assertIs(shows_orders(MANY, "u", told), True)

    def test_all_sequences(self):
        book = Book("none a\nbool b\ntext c\nint d 0 0\nlist e a 0 *\nrecord f\neither u a b c d e f")
        self.assertEqual(orders(book, "u")[:4], ("safe", (0, 1, 2, 3, 4, 5), 720, ()))

    def test_members_without_documents_may_stand_anywhere(self):
        book = Book("none n\nrecord e\n  f e\nrecord a\n  x n\nrecord b open\neither u b e a")
        self.assertEqual(orders(book, "u")[1:3], ((1, 2, 0), 3))

    def test_rings(self):
        book = Book("word a p q\nword b q r\nword c r p\nnone n\neither u n a b c")
        told = orders(book, "u")
        self.assertEqual(told[0], "ring")
        self.assertTrue({row[0] for row in told[1]} <= {1, 2, 3})
        self.assertIs(shows_orders(book, "u", told), True)

    def test_a_ring_of_three(self):
        # a can write what b reads, b what c reads, c what a reads, and nothing the other way about.
        book = Book("none n\nrecord a open\n  x n\n  y n ?\nrecord b open\n  y n\n  z n ?\n"
                    "record c open\n  z n\n  x n ?\neither u a b n c")
        told = orders(book, "u")
        self.assertEqual((told[0], sorted(row[:2] for row in told[1])), ("ring", [(0, 1), (1, 3), (3, 0)]))
        self.assertEqual([plainly.size(row[2]) for row in told[1]], [3, 3, 3])
        self.assertIs(shows_orders(book, "u", told), True)
        self.assertIs(shows_orders(book, "u", ("ring", told[1][1:] + told[1][:1])), True)
        self.assertIs(shows_orders(book, "u", ("ring", told[1][::-1])), False)
        self.assertIs(shows_orders(book, "u", ("ring", told[1][:2])), False)
        self.assertEqual(orders(Book(book.text.replace("  x n ?", "  w n ?")), "u")[:3], ("safe", (0, 1, 2, 3), 4))

    def test_too_large(self):
        lines = [greats.great(name, parts) for name, parts in (("q", 500), ("o", 500), ("s", 501))]
        book = Book(greats.text_with(*sum(lines, []), "record w open", "  x r", "either e q n w", "either f n s w",
                                     "record p", "  x n", "record v open", "  x n", "either g p v s w"))
        told = orders(book, "e")
        self.assertEqual((told[1:3], plainly.size(told[3][0][2])), (((0, 1, 2), 3), 500))
        self.refused(TooLarge, 500, orders, book, "f")
        # There is a ring of lesser documents, yet one of all that show a must is too large.
        self.refused(TooLarge, 500, orders, book, "g")
        document = dict(told[3][0][2], u=None)
        self.assertIs(shows_orders(book, "f", ("safe", (0, 1, 2), 3, ((1, 2, document),), pairs_of(book, "f"))), True)
        self.assertEqual(settled(Book(book.text.replace("g p v s w", "g p n")))["f"].members, ("n", "s", "w"))

    def test_by_all_small_documents(self):
        source = random.Random(101)
        seen = {"safe": 0, "ring": 0}
        for _ in range(150):
            forms = plainly.some_forms(source)
            eithers = [name for name in forms if forms[name][0] == "either"]
            if not eithers:
                continue
            book = book_of(forms)
            closed = plainly.closed(forms)
            documents = plainly.documents(forms, 2)
            for name in eithers:
                members = forms[name][1]
                told = orders(book, name)
                seen[told[0]] += 1
                self.assertTrue(plainly.shows_orders(forms, name, told), (name, told))
                self.assertIs(shows_orders(book, name, told), True)
                least = {}
                for j, i in itertools.permutations(range(len(members)), 2):
                    both = [document for document in documents if plainly.fits(closed, members[j], document)
                            and plainly.fits(forms, members[i], document)]
                    if both:
                        least[(j, i)] = plainly.size(both[0])
                if told[0] == "safe":
                    rows = {row[:2]: plainly.size(row[2]) for row in told[3]}
                    self.assertEqual({row: many for row, many in rows.items() if many <= 2 or row in least}, least)
                elif all(plainly.size(row[2]) <= 2 for row in told[1]):
                    self.assertEqual({row[:2]: plainly.size(row[2]) for row in told[1]},
                                     {row[:2]: least[row[:2]] for row in told[1]})
        self.assertGreater(min(seen.values()), 50)

    def test_nothing_is_lost_by_a_safe_sequence_and_something_by_every_other_one(self):
        source = random.Random(102)
        seen = {True: 0, False: 0}
        for _ in range(150):
            forms = plainly.some_forms(source)
            closed = plainly.closed(forms)
            documents = plainly.documents(forms, 2)
            for name in [name for name in forms if forms[name][0] == "either" and len(forms[name][1]) < 4]:
                members = forms[name][1]
                told = orders(book_of(forms), name)
                if told[0] == "ring":
                    continue
                safe = plainly.safe_sequences(len(members), [row[:2] for row in told[3]])
                for numbers in itertools.permutations(range(len(members))):
                    book = in_order(book_of(forms), name, numbers)
                    lost = any(plainly.fits(closed, later, document) and plainly.fits(forms, earlier, document)
                               for earlier, later in itertools.combinations(book[name].members, 2)
                               for document in documents)
                    self.assertFalse(numbers in safe and lost)
                    self.assertEqual(numbers in safe, all(row[0] < row[1] for row in orders(book, name)[3]))
                    seen[numbers in safe] += 1
        self.assertGreater(min(seen.values()), 30)


def pairs_of(book, kind):
    """All pairs of sides of the members of an either that are apart by themselves."""
    forms = {name: book[name].form for name in book.names}
    sides = [(0, name, how, "") for name in book[kind].members for how in ("any", "written")]
    pairs = {plainly.pair(one, other) for one in sides for other in sides}
    return tuple(sorted(pair for pair in pairs if plainly.apart_by(forms, pair, ())))


class TestInOrder(Asking):

    def test_only_the_line_of_the_either_changes(self):
        text = "either v u n\n" + WIDE + "\nrecord r open\n  y u ?\n  x v\nlist l u 0 *"
        self.assertEqual(in_order(Book(text), "u", (1, 0)).text, text.replace("either u a c", "either u c a"))
        self.assertEqual(in_order(Book(text), "u", (0, 1)).text, text)
        self.assertEqual(in_order(Book(text), "v", (1, 0)).text, text.replace("either v u n", "either v n u"))

    def test_numbers_are_those_that_the_members_have_now(self):
        book = Book("none a\nbool b\ntext c\neither u a b c")
        self.assertEqual(in_order(book, "u", (2, 0, 1))["u"].members, ("c", "a", "b"))
        self.assertEqual(in_order(in_order(book, "u", (2, 0, 1)), "u", (2, 0, 1))["u"].members, ("b", "c", "a"))
        self.assertEqual(book["u"].members, ("a", "b", "c"))


class TestSettled(Asking):

    def test_no_order(self):
        self.refused(NoOrder, "u", settled, BOOK)
        ring = "record a\n  x n\nrecord b open\n  x n\n"
        self.refused(NoOrder, "v", settled, Book(ring + "int n 0 9\neither w n a\neither v b a\neither u a b"))

    def test_each_either_has_its_first_safe_sequence(self):
        book = settled(MANY)
        self.assertEqual(book["u"].members, ("t", "o", "c", "b", "a"))
        self.assertEqual(reads_back(book, "u")[0], "back")
        self.assertTrue(settled(book) == book)
        self.assertTrue(settled(Book("none n")) == Book("none n"))

    def test_many_books(self):
        source = random.Random(103)
        seen = {True: 0, False: 0}
        for _ in range(80):
            forms = plainly.some_forms(source)
            book = book_of(forms)
            eithers = [name for name in forms if forms[name][0] == "either"]
            rings = [name for name in eithers if orders(book, name)[0] == "ring"]
            seen[bool(rings)] += len(eithers) > 0
            if rings:
                self.refused(NoOrder, rings[0], settled, book)
                continue
            told = settled(book)
            for name in forms:
                if name in eithers:
                    numbers = orders(book, name)[1]
                    self.assertEqual(told[name].members, tuple(forms[name][1][number] for number in numbers))
                else:
                    self.same(told[name].form, forms[name])
                self.assertEqual(reads_back(told, name)[0], "back")
        self.assertGreater(min(seen.values()), 10)

    def test_least_documents_need_not_be_told(self):
        book = Book(greats.text_with(*greats.great("s", 501), "record w open", "  x r", "either e w s n"))
        self.refused(TooLarge, 500, orders, book, "e")
        self.assertEqual(settled(book)["e"].members, ("s", "w", "n"))


class TestShows(Asking):

    def test_what_is_no_answer(self):
        for value in NO_ANSWERS + [deep(90), deeper(90)]:
            self.assertIs(shows_orders(BOOK, "u", value), False, value)
            self.assertIs(shows_orders(WIDE_BOOK, "u", value), False, value)

    def test_rings(self):
        one, other = (0, 1, {"x": 0}), (1, 0, {"x": 5})
        for rows, right in (((one, other), True), ((other, one), True), ((one,), False), ((), False), ([one, other], False),
                            ((one, other, one, other), False), ((one, one), False), ((one, (1, 0, {"x": 1, "y": ""})), False),
                            ((one, (1, 0, {"x": 10})), False), ((one, (1, 0, (1,))), False), ((one, (True, 0, {"x": 5})), False),
                            (((0, 1, {"x": 0, "z": 1}), other), False), ((one, (1, False, {"x": 5})), False),
                            ((one, [1, 0, {"x": 5}]), False), ((one, (1, 0)), False), ((one, (2, 0, {"x": 5})), False),
                            ((one, (-1, 0, {"x": 5})), False), (((0, 0, {"x": 0}), (0, 0, {"x": 0})), False)):
            self.assertIs(shows_orders(BOOK, "u", ("ring", rows)), right, rows)

    def test_safe(self):
        _, numbers, many, musts, pairs = orders(WIDE_BOOK, "u")
        wrong = [((0, 1), many, musts, pairs), (numbers, 2, musts, pairs), (numbers, True, musts, pairs), (numbers, many, (), pairs),
                 (numbers, many, musts, ()), (list(numbers), many, musts, pairs), ((True, False), many, musts, pairs),
                 (numbers, many, musts + musts, pairs), (numbers, many, ((1, 0, {"x": 0}),), pairs),
                 (numbers, many, ((0, 1, {"x": 0, "y": 0}),), pairs), ((1,), many, musts, pairs), (None, many, musts, pairs),
                 (numbers, many, list(musts), pairs), (numbers, many, musts, list(pairs)), (numbers, None, musts, pairs),
                 (numbers, many, ((1, 0, {"x": 0, "y": 0, "z": 0}),), pairs), ((1, 0, 0), many, musts, pairs)]
        for row in wrong:
            self.assertIs(shows_orders(WIDE_BOOK, "u", ("safe",) + row), False, row)
        book = Book("none n\nrecord a open\nrecord b\n  x r ?\nrecord r open\neither u b a")
        written = Book(book.text.replace("record r open", "record r"))
        self.assertEqual(orders(written, "u")[0], "ring")
        self.assertIs(shows_orders(book, "u", ("ring", ((0, 1, {"x": {"z": 1}}), (1, 0, {})))), False)
        self.assertIs(shows_orders(book, "u", ("ring", ((0, 1, {"x": {}}), (1, 0, {})))), True)
        right = [(numbers, many, ((1, 0, {"x": 9, "y": 3}),), pairs),
                 (numbers, many, musts, tuple(sorted(pairs + (((0, "a", "any", ""), (0, "n", "any", "")),))))]
        for row in right:
            self.assertIs(shows_orders(WIDE_BOOK, "u", ("safe",) + row), True, row)

    def test_one_thing_otherwise(self):
        source = random.Random(104)
        seen = {True: 0, False: 0}
        for _ in range(60):
            forms = plainly.some_forms(source)
            book = book_of(forms)
            for name in [name for name in forms if forms[name][0] == "either"]:
                told = orders(book, name)
                for _ in range(20):
                    value = plainly.otherwise(source, told)
                    right = plainly.shows_orders(forms, name, value)
                    self.assertIs(shows_orders(book, name, value), right, (name, value))
                    seen[right] += 1
        self.assertGreater(min(seen.values()), 50)


if __name__ == "__main__":
    unittest.main()
