"""Section 11: lots, what fits within what, and members that are never taken."""

import random
import unittest

import greats
import plainly
from asking import NO_ANSWERS, NO_DOCUMENTS, NO_KINDS, TEXT, WIDE, Asking, book_of, deep, deeper
from tagless.books import Book
from tagless.errors import NoDocument, NoKind, NotEither, TooLarge, TooMany
from tagless.lots import lot, lots, shows_lots, shows_within, unused, within

BOOK = Book(TEXT)

FIELDS = "abcdefgh"

def wide_text(many):
    """The text of a book with a lot for each set of so many fields, and that of None."""
    lines = ["none n"]
    for field in FIELDS[:many]:
        lines += [f"record r{field} open", f"  {field} n"]
    return "\n".join(lines)


WORDS = ("word {w} p q\nrecord a open\ntagged g k\n  p a\ntagged h k\n  q a\n  s a\ntagged i l\n  p a\nrecord c\n  k w ?")


class TestLot(Asking):

    def test_rows(self):
        rows = [(None, ()), (0, ("n",)), (True, ()), (10, ()), ("", ("t",)), ({"x": 1}, ("a", "b", "u")), ([], ()),
                ({"x": 1, "k": "one"}, ("b", "g", "u")), ({"x": 1, "k": "two", "y": ""}, ("b", "g", "u")), ({}, ())]
        for document, right in rows:
            self.same(lot(BOOK, document), right)
            self.same(lot(book=BOOK, document=document), right)

    def test_no_document(self):
        for document in NO_DOCUMENTS:
            self.refused(NoDocument, document, lot, BOOK, document)

    def test_deep_documents(self):
        book = Book("list z l 0 *\nlist l z 1 1\nnone n\neither a l n")
        self.assertEqual(lot(book, deep(400, [])), ("z",))
        self.assertEqual(lot(book, deep(401, [])), ("a", "l"))


class TestLots(Asking):

    def test_the_book_of_the_examples(self):
        told = lots(BOOK)
        self.assertEqual([row[0] for row in told], [(), ("a", "b", "u"), ("b", "g", "u"), ("b", "u"), ("n",), ("t",)])
        self.assertEqual([plainly.size(row[1]) for row in told], [1, 2, 3, 3, 1, 1])
        self.same(lots(book=BOOK), told)
        self.assertIs(shows_lots(book=BOOK, value=told), True)

    def test_strings_that_are_words_of_tagged_kinds_part_records(self):
        book = Book(WORDS.format(w="w"))
        told = {row[0]: row[1] for row in lots(book)}
        self.same(told[("a", "c", "h")], {"k": "q"})
        self.same(told[("a", "c", "g")], {"k": "p"})
        self.same(told[("a", "h")], {"k": "s"})
        self.same(told[("a", "c")], {})
        self.same(told[("a", "g", "i")], {"k": "p", "l": "p"})
        self.assertEqual(plainly.size(told[("a", "h", "i")]), 3)
        self.assertEqual(plainly.size(told[("a", "g")]), 3)
        self.assertEqual(len(told), 11)

    def test_lists_by_their_lengths(self):
        lines = ["none n"]
        lengths = [(0, 0), (1, 1), (2, 3), (0, 2), (4, 4), (3, None), (2, 4)]
        for name, (low, high) in zip("abcdefg", lengths):
            lines.append(f"list {name} n {low} {'*' if high is None else high}")
        told = {row[0]: plainly.size(row[1]) for row in lots(Book("\n".join(lines)))}
        right = {(): 1, ("n",): 1}
        for many in range(6):
            names = tuple(name for name, (low, high) in zip("abcdefg", lengths)
                          if low <= many and (high is None or many <= high))
            right[names] = many + 1
        self.assertEqual(told, right)

    def test_lists_of_several_items(self):
        book = Book("int a 0 1\nint b 1 2\nint c 2 3\nlist d a 0 *\nlist e b 0 *\nlist f c 0 2")
        told = {row[0]: plainly.size(row[1]) for row in lots(book)}
        self.assertEqual(told[("d", "e", "f")], 1)
        self.assertEqual(told[("d",)], 2)
        self.assertEqual(told[("d", "e")], 2)
        self.assertEqual(told[("e",)], 3)
        self.assertEqual(told[("e", "f")], 2)
        self.assertEqual(told[("f",)], 2)

    def test_kinds_without_documents_are_in_no_lot(self):
        book = Book("record e\n  f e\nlist l e 0 *\nlist m e 1 *\neither u e m\nrecord o open\n  x e ?")
        self.assertEqual([row[0] for row in lots(book)], [(), ("l",), ("o",)])

    def test_too_many(self):
        book = Book(wide_text(7))
        self.assertEqual(len(lots(book)), 2 ** 7 + 1)
        book = Book(wide_text(8))
        self.refused(TooMany, 200, lots, book)
        self.assertIs(shows_lots(book, ()), False)

    def test_200_and_201(self):
        # 128 lots of records, that of None, and one for each word that is parted from all others.
        text = wide_text(7)
        for at in range(7):
            text += f"\nword s{FIELDS[at]} " + " ".join(word_of(number) for number in range(1, 72) if number >> at & 1)
        told = lots(Book(text))
        self.assertEqual(len(told), 200)
        self.assertIs(shows_lots(Book(text), told), True)
        self.assertEqual(unused(Book(text + "\neither u sa n"), "u"), ())
        further = Book(text + "\nbool o")
        self.refused(TooMany, 200, lots, further)
        self.refused(TooMany, 200, within, further, "n", "n")
        self.assertIs(shows_lots(further, told), False)
        self.assertIs(shows_within(further, "n", "o", ("not", None)), False)

    def test_too_many_comes_ahead_of_too_large(self):
        lines = greats.great("s", 501)
        book = Book(greats.text_with(*lines))
        self.refused(TooLarge, 500, lots, book)
        many = "\n".join([wide_text(8)] + greats.BLOCKS[1:5])
        self.refused(TooMany, 200, lots, Book(many + "\nlist i d 4 4"))
        self.refused(TooMany, 200, within, Book(many + "\nlist i d 4 4"), "i", "d")
        few = "\n".join([wide_text(3)] + greats.BLOCKS[1:5])
        self.refused(TooLarge, 500, lots, Book(few + "\nlist i d 4 4"))

    def test_least_documents_of_500_parts_are_told(self):
        book = Book(greats.text_with(*greats.great("q", 500)))
        told = {row[0]: plainly.size(row[1]) for row in lots(book)}
        self.assertEqual((told[("q",)], told[("r",)]), (500, 495))
        self.assertIs(shows_lots(book, lots(book)), True)

    def test_what_is_told_is_new(self):
        told = lots(BOOK)
        told[1][1]["x"] = None
        self.same(lots(BOOK)[1][1], {"x": 0})

    def test_deep_documents(self):
        lines = []
        for letter, many in zip("abc", (4, 5, 7)):
            names = [letter + "abcdefg"[number] for number in range(many)]
            for number, name in enumerate(names):
                lines.append(f"list {name} {names[(number + 1) % many]} {0 if number == many - 1 else 1} 1")
        told = lots(Book("\n".join(lines)))
        self.assertEqual(max(plainly.size(row[1]) for row in told), 140)
        self.assertIs(shows_lots(Book("\n".join(lines)), told), True)

    def test_many_tags(self):
        lines = [f"record r{one} open" for one in FIELDS[:6]]
        for at, field in enumerate(FIELDS[:7]):
            lines += [f"tagged t{field} {field}"] + [f"  {one} r{one}" for one in FIELDS[:6]]
        self.assertEqual(len(lots(Book("\n".join(lines)))), 2 ** 7 + 1)


def word_of(number):
    """A word for a number."""
    return "w" + "abcdefghi"[number % 9] + "abcdefghi"[number // 9]


class TestAgainstAllSmallDocuments(Asking):

    def test_lots_within_unused(self):
        source = random.Random(111)
        seen = {"within": 0, "not": 0}
        for _ in range(50):
            forms = plainly.some_forms(source)
            book = book_of(forms)
            rows = [(document, plainly.size(document), plainly.lot(forms, document)) for document in plainly.documents(forms, 3)]
            least = {}
            for _, many, told in rows:
                least.setdefault(told, many)
            told = lots(book)
            self.assertEqual([row[0] for row in told], sorted({row[0] for row in told}))
            for names, document in told:
                self.assertEqual(plainly.lot(forms, document), names)
                many = plainly.size(document)
                self.assertEqual(least.get(names), many if many <= 3 else None, (names, document))
            self.assertEqual(set(least) - {row[0] for row in told}, set())
            for one in forms:
                for other in forms:
                    answer = within(book, one, other)
                    seen[answer[0]] += 1
                    outside = [many for _, many, names in rows if one in names and other not in names]
                    if answer[0] == "within":
                        self.assertEqual(outside, [])
                        self.same(answer, ("within", told))
                    else:
                        self.assertTrue(plainly.fits(forms, one, answer[1]) and not plainly.fits(forms, other, answer[1]))
                        many = plainly.size(answer[1])
                        self.assertEqual(outside[:1], [many] if many <= 3 else [])
            for name in [name for name in forms if forms[name][0] == "either"]:
                taken = {plainly.first(forms, name, document)[1] for names, document in told if name in names}
                self.assertEqual(unused(book, name), tuple(member for member in forms[name][1] if member not in taken))
                small = {plainly.first(forms, name, document)[1] for document, _, names in rows if name in names}
                self.assertEqual(small & set(unused(book, name)), set())
        self.assertGreater(min(seen.values()), 200)

    def test_documents_of_four_parts(self):
        source = random.Random(112)
        for _ in range(3):
            forms = plainly.some_forms(source)
            least = {}
            for document in plainly.documents(forms, 4):
                least.setdefault(plainly.lot(forms, document), plainly.size(document))
            told = {row[0]: plainly.size(row[1]) for row in lots(book_of(forms))}
            self.assertEqual({names: many for names, many in told.items() if many <= 4}, least)


class TestWithin(Asking):

    def test_arguments(self):
        self.same(within(book=BOOK, one="a", other="b"), ("within", lots(BOOK)))
        self.same(within(other="a", one="n", book=BOOK), ("not", 0))
        self.assertIs(shows_within(book=BOOK, one="n", other="a", value=("not", 7)), True)
        for kind in NO_KINDS:
            self.refused(NoKind, kind, within, BOOK, kind, "a")
            self.refused(NoKind, kind, within, BOOK, kind, 5)
            self.refused(NoKind, kind, within, BOOK, "a", kind)
            self.refused(NoKind, kind, shows_within, BOOK, kind, "a", None)
            self.refused(NoKind, kind, shows_within, BOOK, "a", kind, None)

    def test_an_empty_kind_is_within_each_one(self):
        book = Book("record e\n  f e\nnone n")
        self.assertEqual(within(book, "e", "n")[0], "within")
        self.same(within(book, "n", "e"), ("not", None))

    def test_too_large_just_for_what_is_told(self):
        book = Book(greats.text_with(*greats.great("s", 501), "record o", "  x r"))
        self.refused(TooLarge, 500, within, book, "n", "n")
        self.refused(TooLarge, 500, within, book, "s", "n")
        self.same(within(book, "n", "s"), ("not", None))
        self.assertEqual(plainly.size(within(book, "o", "s")[1]), 496)
        document = within(book, "o", "s")[1]
        document.update(y=None, z=None, v=None, w=None, u=None)
        self.assertIs(shows_within(book, "s", "n", ("not", document)), True)

    def test_too_many(self):
        book = Book(wide_text(8))
        self.refused(TooMany, 200, within, book, "n", "n")
        self.assertIs(shows_within(book, "n", "ra", ("not", None)), False)
        self.assertIs(shows_within(Book(wide_text(7)), "n", "ra", ("not", None)), True)


class TestUnused(Asking):

    def test_rows(self):
        self.assertEqual(unused(book=Book(WIDE), kind="u"), ("c",))
        self.assertEqual(unused(Book(WIDE.replace("u a c", "u c a")), "u"), ())
        self.assertEqual(unused(BOOK, "u"), ())
        rows = [("record e\n  f e\nnone n\nbool b\neither u e n b", ("e",)), ("int a 0 3\nint b 3 9\nint c 2 5\neither u a b c", ("c",)),
                ("int a 0 3\nint b 3 9\nint c 2 5\neither u c b a", ()), ("int a 0 3\nint b 4 9\nint c 0 9\neither u c b a", ("b", "a")),
                ("word a p q\nword b q\ntext t\neither v a t\neither u v b", ("b",)), ("record e\n  f e\nrecord d\n  f e\neither u e d", ("e", "d"))]
        for text, right in rows:
            self.assertEqual(unused(Book(text), "u"), right)

    def test_errors(self):
        for kind in NO_KINDS:
            self.refused(NoKind, kind, unused, BOOK, kind)
        for kind in "ntabg":
            self.refused(NotEither, kind, unused, BOOK, kind)
        self.refused(TooMany, 200, unused, Book(wide_text(8) + "\neither u n ra"), "u")
        self.refused(NotEither, "n", unused, Book(wide_text(8)), "n")
        book = Book(greats.text_with(*greats.great("s", 501), "either u n s"))
        self.assertEqual(unused(book, "u"), ())
        self.refused(TooLarge, 500, lots, book)


class TestShows(Asking):

    def test_what_is_no_answer(self):
        for value in NO_ANSWERS + [deep(90), deeper(90)]:
            self.assertIs(shows_lots(BOOK, value), False, value)
            self.assertIs(shows_within(BOOK, "a", "b", value), False, value)
            if value not in (("not", None), ("not", ())):
                self.assertIs(shows_within(BOOK, "n", "b", value), False, value)

    def test_any_documents_of_the_lots(self):
        right = (((), [[{}]]), (("a", "b", "u"), {"x": 9}), (("b", "g", "u"), {"x": 0, "k": "two", "z": 0}),
                 (("b", "u"), {"x": 0, "z": [0] * 900}), (("n",), 5), (("t",), "six"))
        self.assertIs(shows_lots(BOOK, right), True)
        self.assertIs(shows_within(BOOK, "a", "u", ("within", right)), True)
        self.assertIs(shows_within(BOOK, "u", "a", ("within", right)), False)
        wrong = [right[1:], right[::-1], right + (right[-1],), list(right), right[:4] + ((("n",), True), right[5]),
                 right[:4] + ((["n"], 5), right[5]), right[:4] + ((("n",), 10), right[5]), right[:4] + ((("n",), (5,)), right[5]),
                 right[:4] + ([("n",), 5], right[5]), right[:4] + ((("n",), 5, None), right[5]), right[:4] + (("n", 5), right[5])]
        for value in wrong:
            self.assertIs(shows_lots(BOOK, value), False, value)
            self.assertIs(shows_within(BOOK, "a", "u", ("within", value)), False, value)

    def test_what_is_no_document_within_extras(self):
        told = lots(BOOK)
        at = [row[0] for row in told].index(("b", "u"))
        for document, right in (({"x": 1, "z": [1]}, True), ({"x": 1, "z": [(1,)]}, False), ({"x": 1, "Z": 1}, False),
                                ({"x": 1, 5: 1}, False)):
            value = told[:at] + ((told[at][0], document),) + told[at + 1:]
            self.assertIs(shows_lots(BOOK, value), right)
            self.assertIs(shows_within(BOOK, "a", "b", ("within", value)), right)
            self.assertIs(shows_within(BOOK, "b", "a", ("not", document)), right)

    def test_one_thing_otherwise(self):
        source = random.Random(113)
        seen = {True: 0, False: 0}
        for _ in range(40):
            forms = plainly.some_forms(source)
            book = book_of(forms)
            told = lots(book)
            right = [row[0] for row in told]
            self.assertIs(shows_lots(book, told), True)
            for _ in range(15):
                value = plainly.otherwise(source, told)
                wanted = plainly.shows_rows(value, right, lambda document: plainly.lot(forms, document))
                self.assertIs(shows_lots(book, value), wanted, value)
                seen[wanted] += 1
            for one in forms:
                other = source.choice(list(forms))
                answer = within(book, one, other)
                self.assertIs(shows_within(book, one, other, answer), True)
                for _ in range(3):
                    value = plainly.otherwise(source, answer)
                    wanted = plainly.shows_within(forms, one, other, value, right)
                    self.assertIs(shows_within(book, one, other, value), wanted, value)
                    seen[wanted] += 1
        self.assertGreater(min(seen.values()), 50)


if __name__ == "__main__":
    unittest.main()
