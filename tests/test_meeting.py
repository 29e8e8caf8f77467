"""Section 7: whether two sides meet, and closed tuples of pairs."""

import copy
import random
import unittest

import greats
import plainly
from asking import NO_ANSWERS, TEXT, Asking, book_of, deep, deeper
from plainly import ALL
from tagless import meeting as module
from tagless.books import Book
from tagless.errors import BadSide, TooLarge
from tagless.meeting import meet, shows_meet

BOOK = Book(TEXT)

A, B, N, T = [(0, name, "any", "") for name in "abnt"]

NO_SIDES = [None, True, 0, "", "a", (), [], {}, (0, "a", "any"), [0, "a", "any", ""], (0, "a", "any", "", ""),
            (1, "a", "any", ""), (-1, "a", "any", ""), (False, "a", "any", ""), (None, "a", "any", ""), (0, "z", "any", ""),
            (0, "a", "all", ""), (0, "a", "", ""), (0, "a", "any", "one"), (0, "g", "any", "six"), (0, "u", "any", "a"),
            (0, "", "written", ""), (0, "", "any", "one"), (1, "", "any", ""), (0, "", "", ""), (False, "", "any", ""),
            (0, None, "any", ""), (0, ["a"], "any", ""), (0, "a", ["any"], ""), (0, "a", "any", None), (0, "a", "any", ["one"]),
            deep(90), deeper(90), {0: "a"}, (0, ("a",), "any", "")]


def side(name, how="any", word=""):
    return (0, name, how, word)


class TestExamples(Asking):

    def test_the_examples_of_the_section(self):
        self.assertEqual([meet(BOOK, A, B)[0], meet(BOOK, A, T)[0], meet(BOOK, side("g", word="one"), A)[0]],
                         ["meet", "apart", "apart"])
        self.assertIs(shows_meet(BOOK, A, T, ("apart", ((A, T),))), True)

    def test_functions_are_defined_in_the_file(self):
        self.assertEqual({function.__module__ for function in (meet, shows_meet)}, {"tagless.meeting"})
        self.assertIs(module.meet, meet)


class TestArguments(Asking):

    def test_by_name(self):
        told = meet(one=A, other=B, book=BOOK)
        self.same(told, ("meet", {"x": 0}))
        self.assertIs(shows_meet(book=BOOK, one=A, other=B, value=told), True)

    def test_wrong_sides(self):
        for value in NO_SIDES:
            self.refused(BadSide, value, meet, BOOK, value, A)
            self.refused(BadSide, value, meet, BOOK, A, value)
            self.refused(BadSide, value, meet, BOOK, value, (9,))
            self.refused(BadSide, value, shows_meet, BOOK, value, A, None)
            self.refused(BadSide, value, shows_meet, BOOK, A, other=value, value=("meet", {"x": 0}))

    def test_what_is_told_is_new(self):
        book = Book("none n\nlist l n 2 2\nlist k l 2 2")
        told = meet(book, side("k"), ALL)
        self.same(told, ("meet", [[None, None], [None, None]]))
        told[1][0].append(1)
        self.same(told[1], [[None, None, 1], [None, None]])
        self.same(meet(book, side("k"), ALL), ("meet", [[None, None], [None, None]]))


# Rows (text, one, other, size of a least common document, None if there is none).
ROWS = [
    ("none n", side("n"), side("n"), 1), ("bool n", ALL, side("n"), 1), ("text n", ALL, ALL, 1),
    ("int n 0 4\nint m 4 9", side("n"), side("m"), 1), ("int n 0 3\nint m 4 9", side("n"), side("m"), None),
    ("int n 0 9\nint m 4 5", side("m"), side("n"), 1), ("none n\nbool m", side("n"), side("m"), None),
    ("word v p q\nword w q r", side("v"), side("w"), 1), ("word v p q\nword w r s", side("v"), side("w"), None),
    ("word v p\ntext t", side("v"), side("t"), 1), ("int n 0 1\nbool m", side("n"), side("m"), None),
    ("none n\nlist l n 0 0", side("l"), ALL, 1), ("none n\nlist l n 2 *", side("l"), ALL, 3),
    ("none n\nlist l n 0 1\nlist k n 2 *", side("l"), side("k"), None),
    ("none n\nlist l n 1 3\nlist k n 3 4", side("l"), side("k"), 4),
    ("none n\nbool m\nlist l n 0 3\nlist k m 0 4", side("l"), side("k"), 1),
    ("none n\nbool m\nlist l n 0 3\nlist k m 1 4", side("l"), side("k"), None),
    ("none n\nlist l n 0 0\nlist k l 1 1\nlist j k 0 *\nlist i j 1 *", side("i"), side("k"), 2),
    ("record a", side("a"), ALL, 1), ("record a\n  x a", side("a"), ALL, None), ("record a\n  x a ?", side("a"), ALL, 1),
    ("record a\n  x a", side("a"), side("a"), None), ("list l l 1 *", side("l"), ALL, None), ("list l l 0 *", side("l"), ALL, 1),
    ("none n\nrecord a\n  x n\nrecord b", side("a"), side("b"), None),
    ("none n\nrecord a\n  x n\nrecord b open", side("a"), side("b"), 2),
    ("none n\nrecord a\n  x n\nrecord b open", side("a"), side("b", "written"), None),
    ("none n\nrecord a open\n  x n\nrecord b open\n  y n", side("a"), side("b"), 3),
    ("none n\nrecord a open\n  x n\nrecord b open\n  y n", side("a", "written"), side("b"), None),
    ("none n\nrecord a open\n  x n\nrecord b open\n  y n\n  x n ?", side("a", "written"), side("b"), None),
    ("none n\nrecord a open\n  x n\n  y n ?\nrecord b open\n  y n\n  x n ?", side("a", "written"), side("b", "written"), 3),
    ("none n\nbool m\nrecord a\n  x n ?\nrecord b\n  x m ?", side("a"), side("b"), 1),
    ("none n\nbool m\nrecord a\n  x n\nrecord b\n  x m ?", side("a"), side("b"), None),
    ("record e\n  f e\nrecord a\n  x e ?\nrecord b open", side("a"), side("b"), 1),
    ("record e\n  f e\nrecord a open\n  x e\nrecord b open", side("a"), side("b"), None),
    ("none n\nbool m\neither u n m\ntext t\neither v t u", side("u"), side("v"), 1),
    ("none n\nbool m\neither u n m\ntext t\nint i 0 1\neither v t i", side("u"), side("v"), None),
    (TEXT, side("g"), side("b"), 3), (TEXT, side("g"), side("a"), None), (TEXT, side("g"), ALL, 3),
    (TEXT, side("g", word="two"), side("g", word="one"), None), (TEXT, side("g", word="two"), side("g", word="two"), 3),
    (TEXT, side("g"), side("b", "written"), None), (TEXT, side("g", "written", "two"), side("b"), 3),
    ("text t\nrecord a\ntagged g k\n  p a\nrecord b\n  k t", side("g"), side("b"), 2),
    ("word t q\nrecord a\ntagged g k\n  p a\nrecord b\n  k t", side("g"), side("b"), None),
    ("none t\nrecord a\ntagged g k\n  p a\nrecord b open\n  k t ?", side("g"), side("b"), None),
    ("word t q\nrecord a\ntagged g k\n  p a\n  q a\nrecord b\n  k t", side("g"), side("b", "written"), 2),
    ("record a open\ntagged g k\n  p a\ntagged h l\n  p a", side("g"), side("h"), 3),
    ("record a open\ntagged g k\n  p a\ntagged h l\n  p a", side("g"), side("h", "written"), None),
    ("record a open\nrecord b\ntagged g k\n  p b\ntagged h l\n  p a", side("g"), side("h"), None),
    ("record a\n  k u\nrecord b\ntagged g k\n  p b\n  q b\nword w q\nnone n\neither u n w", side("a"), side("g", word="q"), 2),
    ("record a\n  k u\nrecord b\ntagged g k\n  p b\n  q b\nword w q\nnone n\neither u n w", side("a"), side("g", word="p"), None),
    ("record e\n  f e\ntagged g k\n  p e", side("g"), ALL, None), ("record e\n  f e\ntagged g k\n  p e", side("g", word="p"), ALL, None),
    ("record a\n  x g ?\ntagged g k\n  p a\nrecord c\n  x g", side("a"), side("c"), 3),
]


class TestMeet(Asking):

    def test_rows(self):
        for text, one, other, right in ROWS:
            book = Book(text)
            forms = {name: book[name].form for name in book.names}
            for two in ((one, other), (other, one)):
                told = meet(book, *two)
                if right is None:
                    self.assertEqual(told[0], "apart", (text, two))
                    self.assertTrue(plainly.is_closed(forms, told[1]) and plainly.pair(one, other) in told[1])
                else:
                    self.assertEqual((told[0], plainly.size(told[1])), ("meet", right), (text, two))
                    self.assertTrue(plainly.of_side(forms, one, told[1]) and plainly.of_side(forms, other, told[1]))
                self.assertIs(shows_meet(book, *two, told), True)

    def test_least_documents_of_500_parts_are_told(self):
        book = Book(greats.text_with(*greats.great("q", 500), *greats.great("s", 501), "either u s q"))
        self.assertEqual(plainly.size(meet(book, side("q"), ALL)[1]), 500)
        self.assertEqual(plainly.size(meet(book, side("u"), ALL)[1]), 500)
        self.refused(TooLarge, 500, meet, book, side("s"), ALL)
        self.refused(TooLarge, 500, meet, book, ALL, side("s", "written"))

    def test_documents_in_evidence_may_be_of_any_size(self):
        book = Book(greats.text_with(*greats.great("q", 500), *greats.great("s", 501)))
        document = meet(book, side("q"), ALL)[1]
        document["u"] = None
        self.assertIs(shows_meet(book, side("s"), ALL, ("meet", document)), True)
        self.assertIs(shows_meet(Book("none n\nlist l n 0 *"), side("l"), ALL, ("meet", [None] * 5000)), True)

    def test_least_documents_that_no_number_can_count(self):
        names = "abcdefghijklmno"
        lines = [f"list {one} {other} 4 4" for one, other in zip(names, names[1:] + "p")]
        self.refused(TooLarge, 500, meet, Book("\n".join(lines + ["none p"])), side("a"), ALL)
        self.assertEqual(meet(Book("\n".join(lines + ["record p", "  x p"])), side("a"), ALL)[0], "apart")

    def test_deep_least_documents(self):
        lines = []
        for letter, many in (("a", 7), ("b", 9)):
            names = [letter + "abcdefghi"[number] for number in range(many)]
            for number, name in enumerate(names):
                low = 0 if number == many - 1 else 1
                lines.append(f"list {name} {names[(number + 1) % many]} {low} 1")
        book = Book("\n".join(lines))
        told = meet(book, side("aa"), side("ba"))
        self.assertEqual(plainly.size(told[1]), 63)
        self.assertIs(shows_meet(book, side("aa"), side("ba"), told), True)


class TestAgainstAllSmallDocuments(Asking):

    def test_meet(self):
        source = random.Random(71)
        told_apart = 0
        for _ in range(40):
            forms = plainly.some_forms(source)
            book = book_of(forms)
            sides = plainly.all_sides(forms)
            closed = plainly.closed(forms)
            rows = []
            for document in plainly.documents(forms, 3):
                rows.append((document, plainly.lot(forms, document), plainly.lot(closed, document)))
            for _ in range(25):
                one, other = source.choice(sides), source.choice(sides)
                common = [document for document, lot, written in rows
                          if all(name == "" or name in (lot if how == "any" else written)
                                 and (word == "" or document[forms[name][1]] == word)
                                 for _, name, how, word in (one, other))]
                told = meet(book, one, other)
                if told[0] == "meet":
                    self.assertTrue(all(plainly.of_side(forms, two, told[1]) for two in (one, other)))
                    least = min(map(plainly.size, common), default=None)
                    self.assertEqual(least, plainly.size(told[1]) if least or plainly.size(told[1]) <= 3 else None)
                else:
                    told_apart += 1
                    self.assertEqual(common, [])
                    self.assertTrue(plainly.is_closed(forms, told[1]) and plainly.pair(one, other) in told[1])
        self.assertGreater(told_apart, 200)


class TestShows(Asking):

    def test_what_is_no_answer(self):
        for value in NO_ANSWERS + [deep(90), deeper(90)]:
            for one, other in ((A, B), (A, T), (ALL, ALL)):
                if value != ("meet", None):
                    self.assertIs(shows_meet(BOOK, one, other, value), False, value)

    def test_pairs_that_do_not_do(self):
        wrong = [(), ((N, T),), ((T, A),), ((A, T), (A, T)), ((A, T), (A, N)), [(A, T)], ([A, T],), ((A, T, N),), ((A, B),),
                 ((A, B), (A, T)), ((A, T), (False, "n", "any", "")), ((A, (0, "t", "any", None)),),
                 (((False, "a", "any", ""), T),), (((1, "a", "any", ""), T),), ((A, T), (ALL, A)), ((A, T), (N, N))]
        for pairs in wrong:
            self.assertIs(shows_meet(BOOK, A, T, ("apart", pairs)), False, pairs)
        for pairs in (((A, T),), ((A, N), (A, T)), ((A, T), (B, N), (N, T))):
            self.assertIs(shows_meet(BOOK, A, T, ("apart", pairs)), True, pairs)

    def test_one_of_two_unions_is_enough(self):
        book = Book("none n\nbool m\ntext t\nint i 0 0\neither u n m\neither v t i")
        u, v, n, m, t, i = [side(name) for name in "uvnmti"]
        inner = [plainly.pair(one, other) for one in (n, m) for other in (t, i)]
        by_u = tuple(sorted(inner + [plainly.pair(n, v), plainly.pair(m, v), (u, v)]))
        by_v = tuple(sorted(inner + [plainly.pair(t, u), plainly.pair(i, u), (u, v)]))
        self.assertIs(shows_meet(book, u, v, ("apart", by_u)), True)
        self.assertIs(shows_meet(book, v, u, ("apart", by_v)), True)
        self.assertIs(shows_meet(book, u, v, ("apart", tuple(sorted(inner + [(u, v)])))), False)
        mixed = tuple(sorted(inner + [plainly.pair(n, v), plainly.pair(t, u), (u, v)]))
        self.assertIs(shows_meet(book, u, v, ("apart", mixed)), False)

    def test_pairs_of_lists(self):
        book = Book("none n\nbool m\nlist a n 0 2\nlist b m 0 2\nlist c m 1 2\nlist d n 3 *\nlist e m 2 2")
        n, m, a, b, c, d, e = [side(name) for name in "nmabcde"]
        rows = [(((a, b), (m, n)), False), (((a, c), (m, n)), True), (((a, c),), False), (((a, d),), True), (((c, d), (m, n)), True),
                (((c, d),), True), (((c, e), (m, m)), False), (((a, e), (m, n)), True), (((b, e), (m, n)), False),
                (((ALL, c), (ALL, m)), False), (((a, n),), True), (((ALL, a),), False)]
        for pairs, right in rows:
            pairs = tuple(sorted(plainly.pair(*two) for two in pairs))
            for one, other in pairs[:1]:
                self.assertIs(shows_meet(book, one, other, ("apart", pairs)), right, pairs)

    def test_each_pair_beside_all_others_that_are_apart(self):
        source = random.Random(73)
        seen = {True: 0, False: 0}
        for _ in range(25):
            forms = plainly.some_forms(source)
            # Kinds without documents, and what hangs on them.
            forms["e"] = ("record", False, (("x", "e", True),))
            forms["f"] = ("record", source.random() < 0.5, (("y", source.choice("en"), source.random() < 0.7),))
            forms["h"] = ("list", source.choice("ef"), source.choice((0, 1)), None)
            book = book_of(forms)
            pairs = sorted({plainly.pair(one, other) for one in plainly.all_sides(forms) for other in plainly.all_sides(forms)})
            known = set(pairs)
            while True:
                kept = {pair for pair in known if plainly.apart_by(forms, pair, known)}
                if len(kept) == len(known):
                    break
                known = kept
            for one, other in source.sample(pairs, min(len(pairs), 60)):
                self.assertEqual(meet(book, one, other)[0], "apart" if (one, other) in known else "meet")
                further = tuple(sorted(known | {(one, other)}))
                right = (one, other) in known
                self.assertIs(shows_meet(book, one, other, ("apart", further)), right)
                seen[right] += 1
                fewer = tuple(pair for pair in further if pair == (one, other) or source.random() < 0.8)
                self.assertIs(shows_meet(book, one, other, ("apart", fewer)), plainly.is_closed(forms, fewer))
        self.assertGreater(min(seen.values()), 250)

    def test_documents_that_do_not_do(self):
        for document in (None, {}, {"x": 10}, {"x": True}, {"x": 0, "y": ""}, [{"x": 0}], {"x": (0,)}, {"X": 0}):
            self.assertIs(shows_meet(BOOK, A, B, ("meet", document)), False)
        for document in ({"x": 9}, {"x": 0}):
            self.assertIs(shows_meet(BOOK, A, B, ("meet", document)), True)
        self.assertIs(shows_meet(BOOK, B, ALL, ("meet", {"x": 1, "q": []})), True)
        for extras in ({"q": ()}, {"Q": 1}, {"q": [(1,)]}, {1: 1}):
            self.assertIs(shows_meet(BOOK, B, ALL, ("meet", dict(extras, x=1))), False)
        self.assertIs(shows_meet(BOOK, ALL, ALL, ("meet", ())), False)
        self.assertIs(shows_meet(BOOK, side("b", "written"), ALL, ("meet", {"x": 1, "q": []})), False)

    def test_one_thing_otherwise(self):
        source = random.Random(72)
        seen = {True: 0, False: 0}
        for _ in range(40):
            forms = plainly.some_forms(source)
            book = book_of(forms)
            sides = plainly.all_sides(forms)
            for _ in range(6):
                one, other = source.choice(sides), source.choice(sides)
                told = meet(book, one, other)
                kept = copy.deepcopy(told)
                self.assertIs(shows_meet(book, one, other, told), True)
                for _ in range(15):
                    value = plainly.otherwise(source, told)
                    right = plainly.shows_meet(forms, one, other, value)
                    self.assertIs(shows_meet(book, one, other, value), right, value)
                    seen[right] += 1
                self.same(told, kept)
                self.same(meet(book, one, other), told)
        self.assertGreater(min(seen.values()), 100)


if __name__ == "__main__":
    unittest.main()
