"""Section 13: whether a newer book keeps an elder one, and where a new member may be put."""

import random
import unittest

import greats
import plainly
from asking import NO_ANSWERS, NO_KINDS, TEXT, WIDE, Asking, book_of, deep, deeper
from tagless import growth as module
from tagless.books import Book
from tagless.errors import BadMember, BadPlace, NoKind, NotEither, TooLarge
from tagless.growth import grown, keeps, places, shows_keeps
from tagless.orders import in_order
from tagless.readings import written

BOOK = Book(TEXT)

SHOP = Book("int n 0 9\ntext t\nrecord a open\n  x n\nrecord c\n  x n\n  y t\neither u a t")

MANY = Book("int n 0 9\nint m 3 4\nint e 20 30\nrecord f\n  x f\nlist l n 1 3\nlist k f 0 4\nlist j f 1 2\nlist o n 0 0\n"
            "record r open\n  x n\n  y m ?\n  z f ?\nword w a b\ntext t\nnone z\nbool b\neither u w n f z\n"
            "tagged g q\n  one r\n  two h\nrecord h\n  x f\n  y n")


class TestExamples(Asking):

    def test_the_examples_of_the_section(self):
        self.same([places(SHOP, "u", "c"), keeps(SHOP, Book(SHOP.text.replace("x n", "x n ?")))[0],
                   keeps(Book("list l t 0 *\ntext t"), Book("list l t 1 *\ntext t"))],
                  [(0, 1, 2), "keeps", ("breaks", ("l", ()))])

    def test_functions_are_defined_in_the_file(self):
        for name in "keeps shows_keeps grown places".split():
            self.assertEqual(getattr(module, name).__module__, "tagless.growth")


class TestKeeps(Asking):

    def breaks(self, elder, newer, reading):
        told = keeps(elder, newer)
        self.same(told, ("breaks", reading))
        self.assertIs(shows_keeps(elder, newer, told), True)
        self.same(keeps(elder=elder, newer=newer), told)

    def kept(self, elder, newer):
        told = keeps(elder, newer)
        self.assertEqual(told[0], "keeps", told)
        self.assertIs(shows_keeps(elder, newer, told), True)
        self.assertIs(shows_keeps(elder=elder, newer=newer, value=told), True)

    def other(self, *changes):
        text = MANY.text
        for old, new in changes:
            self.assertIn(old, text)
            text = text.replace(old, new)
        return Book(text)

    def test_a_book_keeps_itself_unless_its_members_are_lost(self):
        self.kept(MANY, MANY)
        self.kept(SHOP, SHOP)
        self.breaks(BOOK, BOOK, ("u", "b", ("b", (("x", ("n", 0)),))))
        self.breaks(Book(WIDE), Book(WIDE), ("u", "c", ("c", (("x", ("n", 0)), ("y", ("n", 0))))))

    def test_plain_kinds(self):
        rows = [(("int n 0 9", "int n 0 10"), None), (("int n 0 9", "int n 1 9"), ("n", 0)), (("int n 0 9", "int n 0 8"), ("n", 9)),
                (("int n 0 9", "text n"), ("n", 0)), (("word w a b", "word w b a c"), None), (("word w a b", "text w"), None),
                (("word w a b", "word w a c"), ("w", "b")), (("none z", "text z"), ("z", None)), (("none z", "none z\nnone zz"), None)]
        for change, right in rows:
            if right is None:
                self.kept(MANY, self.other(change))
            else:
                self.breaks(MANY, self.other(change), right)
        self.breaks(Book("bool b"), Book("int b 0 1"), ("b", True))
        self.breaks(Book("int b 0 1"), Book("bool b"), ("b", 0))
        self.breaks(Book("text t"), Book("word t a"), ("t", ""))
        self.kept(Book("int n 5 5"), Book("int n -5 5"))

    def test_kinds_that_are_no_more(self):
        self.kept(Book("none n\nrecord f\n  x f\neither u f n"), Book("none n\neither u z n\nbool z"))
        self.breaks(Book("none n\nbool b"), Book("bool b"), ("n", None))
        self.breaks(Book("none n\nlist l n 1 1"), Book("none n"), ("l", (("n", None),)))

    def test_sorts(self):
        self.breaks(Book("none n\nlist l n 0 1"), Book("none n\nrecord l"), ("l", ()))
        self.breaks(Book("none n\nrecord l"), Book("none n\nlist l n 0 1"), ("l", ()))
        self.breaks(Book("none n\nbool b\neither u n b"), Book("none n\nbool b\nnone u"), ("u", "n", ("n", None)))
        self.breaks(Book("text t\nnone n\neither u t n"), Book("text t\nnone n\ntext u"), ("u", "t", ("t", "")))
        self.breaks(Book("record r\ntagged u k\n  r r"), Book("record r\nrecord u\n  k t\ntext t"), ("u", "r", ("r", ())))
        self.kept(Book("record f\n  x f\nlist k f 1 2"), Book("record k\nint f 0 1"))

    def test_lists(self):
        rows = [("l n 1 3", "l n 0 *", None), ("l n 1 3", "l n 2 3", ("l", (("n", 0),))), ("l n 1 3", "l m 1 3", ("l", (("n", 0),))),
                ("l n 1 3", "l n 1 2", ("l", (("n", 0),) * 3)), ("k f 0 4", "k n 0 0", None), ("k f 0 4", "k n 0 1", None),
                ("k f 0 4", "k f 1 4", ("k", ())), ("j f 1 2", "j m 3 4", None), ("o n 0 0", "o f 0 0", None),
                ("o n 0 0", "o m 0 4", None), ("o n 0 0", "o n 1 4", ("o", ()))]
        for old, new, right in rows:
            newer = self.other(("list " + old + "\n", "list " + new + "\n"))
            if right is None:
                self.kept(MANY, newer)
            else:
                self.breaks(MANY, newer, right)
        self.breaks(Book("none n\nlist l n 0 *"), Book("none n\nlist l n 0 4"), ("l", (("n", None),) * 5))
        self.kept(Book("none n\nlist l n 4 *"), Book("none n\nlist l n 0 *"))

    def test_records(self):
        least = ("r", (("x", ("n", 0)),))
        rows = [("  y m ?", "  y m ?\n  k t ?", None), ("  y m ?", "  y m", least), ("  y m ?", "  y m ?\n  k t", least),
                ("  y m ?", "  y n ?", ("r", (("x", ("n", 0)), ("y", ("m", 3))))), ("  z f ?\n", "", None), ("  z f ?", "  z n ?", None),
                ("  z f ?", "  z f", least), ("record r open", "record r", None), ("  y m ?\n", "", ("r", (("x", ("n", 0)), ("y", ("m", 3)))))]
        for old, new, right in rows:
            newer = self.other((old, new))
            if right is None:
                self.kept(MANY, newer)
            else:
                self.breaks(MANY, newer, right)
        self.kept(MANY, self.other(("  x f\n  y n", "  v t")))

    def test_eithers(self):
        rows = [("u w n f z", "u z n w", None), ("u w n f z", "u b w n z e", None), ("u w n f z", "u t w n z", ("u", "w", ("w", "a"))),
                ("u w n f z", "u w n t", ("u", "z", ("z", None))), ("u w n f z", "u m n w z", ("u", "n", ("n", 3))),
                ("u w n f z", "u e n w z", None)]
        for old, new, right in rows:
            newer = self.other(("either " + old, "either " + new))
            if right is None:
                self.kept(MANY, newer)
            else:
                self.breaks(MANY, newer, right)

    def test_tagged_kinds(self):
        one = ("g", "one", ("r", (("x", ("n", 0)),)))
        rows = [("tagged g q", "tagged g k", one), ("  one r", "  one r\n  three r", None), ("  one r\n", "", one),
                ("  two h\n", "", None), ("  two h", "  two r", None), ("  one r\n  two h", "  one h\n  two r", one)]
        for old, new, right in rows:
            newer = self.other((old, new))
            if right is None:
                self.kept(MANY, newer)
            else:
                self.breaks(MANY, newer, right)

    def test_a_member_of_the_newer_book_is_asked_as_it_is_there(self):
        elder = Book("int n 0 9\nrecord a\n  x n\nrecord c\n  x n\n  y n\neither u a c")
        self.kept(elder, elder)
        wider = Book(elder.text.replace("record a", "record a open"))
        self.breaks(elder, wider, ("u", "c", ("c", (("x", ("n", 0)), ("y", ("n", 0))))))
        self.kept(elder, in_order(wider, "u", (1, 0)))

    def test_what_is_broken_within(self):
        elder = Book("int n 0 9\nlist l n 2 2\nrecord r\n  x l\neither u r l")
        self.breaks(elder, Book(elder.text.replace("n 0 9", "n 1 9")), ("n", 0))
        self.assertIs(shows_keeps(elder, Book(elder.text.replace("n 0 9", "n 1 9")),
                                  ("breaks", ("u", "r", ("r", (("x", ("l", (("n", 0), ("n", 3)))),))))), True)

    def test_least_readings_of_500_parts_and_more(self):
        text = greats.text_with(*greats.great("s", 500), *greats.great("q", 501), "either e s q", "either f n s", "either h n q")
        elder = Book(text)
        newer = Book(text.replace("either f n s", "either f n q"))
        told = keeps(elder, newer)
        self.assertEqual([told[0], told[1][:2], plainly.size(written(elder, told[1]))], ["breaks", ("f", "s"), 500])
        newer = Book(text.replace("either h n q", "either h n s"))
        self.refused(TooLarge, 500, keeps, elder, newer)
        self.assertIs(shows_keeps(elder, newer, ("keeps", ())), False)
        self.assertEqual(places(elder, "f", "q"), (0, 1, 2))

    def test_many_books(self):
        source = random.Random(141)
        seen = {"keeps": 0, "breaks": 0}
        for _ in range(250):
            forms = plainly.some_forms(source)
            others = plainly.other_forms(source, forms)
            elder, newer = book_of(forms), book_of(others)
            told = keeps(elder, newer)
            seen[told[0]] += 1
            self.assertIs(shows_keeps(elder, newer, told), True, (forms, others, told))
            self.assertIs(plainly.shows_keeps(forms, others, told), True, (forms, others, told))
            least = plainly.size(plainly.written(forms, told[1])) if told[0] == "breaks" else 9
            for name, document in self.written_forms(forms, 3):
                if plainly.size(document) < least:
                    for reading in plainly.all_readings(plainly.closed(forms), name, document):
                        self.assertFalse(plainly.is_broken(forms, others, reading), (forms, others, reading, told))
        self.assertGreater(min(seen.values()), 40)

    def written_forms(self, forms, most):
        closed = plainly.closed(forms)
        return [(name, document) for document in plainly.documents(forms, most)
                for name in closed if plainly.fits(closed, name, document)]


class TestGrown(Asking):

    def test_rows(self):
        for place, members in enumerate((("c", "a", "t"), ("a", "c", "t"), ("a", "t", "c"))):
            told = grown(SHOP, "u", "c", place)
            self.assertEqual(told["u"].members, members)
            self.assertEqual(told.text, SHOP.text.replace("either u a t", "either u " + " ".join(members)))
            self.assertTrue(grown(book=SHOP, kind="u", member="c", place=place) == told)
        self.assertEqual(SHOP["u"].members, ("a", "t"))

    def test_errors(self):
        ring = Book("none n\nbool b\neither u n b\neither v u n\neither w v b\nlist l w 0 *\neither k n l")
        for kind in NO_KINDS:
            self.refused(NoKind, kind, grown, SHOP, kind, "c", 0)
            self.refused(NoKind, kind, places, SHOP, kind, "c")
            self.refused(NoKind, kind, grown, SHOP, "u" if kind != "u" else "zz", kind, 0)
            self.refused(NoKind, kind, places, SHOP, "u", kind)
        for kind in ("n", "t", "a", "c"):
            self.refused(NotEither, kind, grown, SHOP, kind, "zz", -1)
            self.refused(NotEither, kind, places, SHOP, kind, "zz")
        for member in ("a", "t", "u"):
            self.refused(BadMember, member, grown, SHOP, "u", member, -1)
            self.refused(BadMember, member, places, SHOP, "u", member)
        for kind, member in (("u", "v"), ("u", "w"), ("v", "w"), ("u", "u"), ("v", "v"), ("w", "v"), ("v", "u")):
            self.refused(BadMember, member, grown, ring, kind, member, 0)
            self.refused(BadMember, member, places, ring, kind, member)
        for kind, member in (("u", "l"), ("u", "k"), ("w", "u"), ("k", "w")):
            self.assertIn(member, grown(ring, kind, member, 1)[kind].members)
        for place in (-1, 3, True, False, None, "0", (), [], [0], 1000, {}):
            self.refused(BadPlace, place, grown, SHOP, "u", "c", place)
        self.refused(NoKind, "zz", grown, SHOP, "u", "zz", -1)

    def test_places(self):
        self.assertEqual(places(book=SHOP, kind="u", member="c"), (0, 1, 2))
        book = Book("int n 0 9\nword w a b\nint o 20 30\ntext t\nbool b\nint s 0 0\nrecord e\n  x e\neither u n w\n"
                    "either z o s\neither y b t")
        for kind, member, right in (("u", "b", (0, 1, 2)), ("u", "t", (2,)), ("u", "s", (1, 2)), ("u", "e", (0, 1, 2)),
                                    ("y", "w", (2,)), ("z", "n", (2,)), ("z", "u", (2,))):
            self.assertEqual(places(book, kind, member), right, (kind, member))
        # Where the book does not keep itself, it is kept at no place.
        self.assertEqual(places(Book(book.text + "\neither v n s"), "u", "b"), ())

    def test_other_unions_are_asked(self):
        book = Book("int n 0 9\nint m 5 6\ntext t\nbool b\neither u t b\neither v u n")
        self.assertEqual(places(book, "u", "m"), ())
        self.assertEqual(places(Book(book.text.replace("v u n", "v n u")), "u", "m"), (0, 1, 2))

    def test_many_books(self):
        source = random.Random(142)
        seen = {}
        for _ in range(120):
            forms = plainly.some_forms(source)
            book = book_of(forms)
            for kind in [name for name in forms if forms[name][0] == "either"]:
                member = source.choice([name for name in forms if name not in forms[kind][1]] or ["n"])
                if member in forms[kind][1] or self.leads(forms, member, kind):
                    self.refused(BadMember, member, places, book, kind, member)
                    continue
                right = []
                for place in range(len(forms[kind][1]) + 1):
                    told = list(forms[kind][1])
                    told.insert(place, member)
                    newer = grown(book, kind, member, place)
                    self.same(plainly.rows({**forms, kind: ("either", tuple(told))}), tuple((n, newer[n].form) for n in newer.names))
                    if keeps(book, newer)[0] == "keeps":
                        right.append(place)
                self.assertEqual(places(book, kind, member), tuple(right))
                many = len(right) if len(right) < len(forms[kind][1]) + 1 else "all"
                seen[many] = seen.get(many, 0) + 1
        self.assertGreater(min(seen[0], seen[1], seen["all"]), 5, seen)

    def leads(self, forms, name, kind):
        if name == kind:
            return True
        return forms[name][0] == "either" and any(self.leads(forms, member, kind) for member in forms[name][1])


class TestShows(Asking):

    def test_what_is_no_answer(self):
        for value in NO_ANSWERS + [("keeps",), ("keeps", []), ("keeps", None), ("breaks", ()), ("breaks", None), ["keeps", ()],
                                   ("breaks", ("n", 0)), ("keeps", ((),)), ("keeps", (), ()), deep(90), deeper(90),
                                   ("breaks", deeper(80)), ("breaks", ("n", True)), ("breaks", ("l", ())), (True, ())]:
            self.assertIs(shows_keeps(MANY, MANY, value), False, value)
            self.assertIs(shows_keeps(BOOK, MANY, value), value == ("breaks", ("u", "b")), value)

    def test_sides_of_both_books(self):
        told = keeps(SHOP, SHOP)
        self.same(told, ("keeps", (((0, "t", "written", ""), (1, "a", "any", "")),)))
        apart = ((0, "t", "any", ""), (1, "n", "written", ""))
        for value, right in ((tuple(sorted(told[1] + (apart,))), True), (told[1] + (apart,), False), ((), False), (told[1] * 2, False),
                             ((((0, "t", "written", ""), (0, "a", "any", "")),), False),
                             ((((1, "a", "any", ""), (0, "t", "written", "")),), False),
                             ((((0, "t", "any", ""), (1, "a", "any", "")),), False),
                             ((((0, "t", "written", ""), (True, "a", "any", "")),), False),
                             ((((0, "t", "written", ""), (2, "a", "any", "")),), False),
                             ((((0, "t", "written", ""), (1, "c", "any", "")),), False),
                             (told[1] + (((1, "", "any", ""), (1, "n", "any", "")),), False)):
            self.assertIs(shows_keeps(SHOP, SHOP, ("keeps", value)), right, value)

    def test_kinds_that_are_told_to_be_empty(self):
        elder = Book("record f\n  x f\nlist l f 0 1\nlist k f 1 1\nlist h k 1 1")
        empty = [((0, "", "any", ""), (0, name, "any", "")) for name in "fhk"]
        pairs = tuple(empty)
        self.same(keeps(elder, Book("record l")), ("breaks", ("l", ())))
        newer = Book("none n\nlist l n 0 0")
        self.same(keeps(elder, newer), ("keeps", pairs))
        for value, right in ((pairs, True), (tuple(empty[:2]), False), ((empty[0], empty[2]), False), ((), False)):
            self.assertIs(shows_keeps(elder, newer, ("keeps", value)), right, value)
        newer = Book("none n\nlist l n 0 0\nlist k n 0 4")
        for value, right in (((empty[0],), False), ((empty[0], empty[2]), False), (pairs, True)):
            self.assertIs(shows_keeps(elder, newer, ("keeps", value)), right, value)
        # The item is told to be empty, the list is not: 0 alone counts of its lengths, and its item does not.
        for line, right in (("k 0 1", True), ("k 1 1", True), ("k 0 0", False), ("n 1 1", False), ("k 2 4", False)):
            newer = Book("none n\nlist l n 0 0\nlist k n 0 4\nlist h " + line)
            self.assertIs(shows_keeps(elder, newer, ("keeps", (empty[0],))), right, line)
        newer = Book("none n\nlist l n 0 0\nlist k n 1 4\nlist h k 1 1")
        self.assertIs(shows_keeps(elder, newer, ("keeps", (empty[0],))), False)

    def all_apart(self, forms, others):
        """All pairs that are apart, of all sides of both books: no closed tuple has others."""
        both = plainly.beside(forms, others)
        known = {plainly.pair(one, other) for one in plainly.all_sides(both) for other in plainly.all_sides(both)}
        gone = {None}
        while gone:
            gone = {two for two in known if not plainly.apart_by(both, two, known)}
            known -= gone
        return tuple(sorted(tuple(self.of_one(side) for side in two) for two in known))

    def of_one(self, side):
        return (1, side[1][1:]) + side[2:] if side[1].startswith(plainly.NEWER) else side

    def test_with_all_pairs_that_are_apart(self):
        """Evidence that has all that evidence can have shows just what is so."""
        source = random.Random(144)
        seen = {"keeps": 0, "breaks": 0}
        rows = []
        for _ in range(150):
            forms = plainly.some_forms(source)
            others = plainly.other_forms(source, forms)
            if len(forms) + len(others) < 22:
                rows.append((forms, others))
        base = {"n": ("int", 0, 1), "f": ("record", False, (("x", "f", True),)), "z": ("none",)}
        for one, other in ((("list", "n", 0, 3), ("list", "n", 0, 2)), (("list", "n", 0, None), ("list", "n", 0, 4)),
                           (("list", "n", 0, 3), ("list", "n", 0, 3)), (("list", "n", 0, 3), ("list", "n", 0, None)),
                           (("list", "n", 0, 3), ("list", "n", 1, 3)), (("list", "n", 0, 3), ("list", "z", 0, 3)),
                           (("list", "n", 0, 0), ("list", "z", 0, 3)), (("list", "f", 0, 4), ("list", "z", 0, 0)),
                           (("tagged", "k", (("p", "r"),)), ("tagged", "q", (("p", "r"),))),
                           (("tagged", "k", (("p", "r"),)), ("tagged", "k", (("p", "s"),))),
                           (("tagged", "k", (("p", "r"), ("q", "f"))), ("tagged", "k", (("p", "r"), ("q", "s")))),
                           (("record", False, (("x", "n", False),)), ("record", True, (("x", "n", False), ("y", "n", False)))),
                           (("record", False, (("x", "n", False),)), ("record", False, ())), (("either", ("f", "g")), ("either", ("g", "f"))),
                           (("record", False, (("x", "f", False),)), ("record", False, (("x", "n", False),))),
                           (("record", False, ()), ("record", False, (("x", "f", True),))),
                           (("record", False, (("x", "n", False),)), ("record", False, (("x", "n", True),))),
                           (("either", ("n", "z")), ("either", ("z", "r"))), (("either", ("n", "z")), ("either", ("n", "r"))),
                           (("either", ("n", "z")), ("either", ("z", "r", "n"))), (("either", ("n", "z")), ("either", ("z", "m", "n"))),
                           (("list", "n", 0, 1), ("record", False, ())), (("none",), ("list", "n", 0, 1)), (("list", "n", 0, 1), ("none",)),
                           (("tagged", "k", (("p", "r"),)), ("record", False, ())), (("either", ("n", "z")), ("none",)),
                           (("bool",), ("text",)), (("word", ("p",)), ("text",))):
            more = {"g": ("record", False, (("x", "f", True),)), "r": ("record", False, (("x", "n", True),)),
                    "s": ("record", False, (("x", "n", False),)), "m": ("int", 1, 1)}
            rows.append(({**base, **more, "a": one}, {**base, **more, "a": other}))
            rows.append(({**base, **more, "a": one}, {**base, **more, "b": other}))
        for forms, others in rows:
            elder, newer = book_of(forms), book_of(others)
            told = keeps(elder, newer)[0]
            seen[told] += 1
            value = ("keeps", self.all_apart(forms, others))
            self.assertIs(plainly.shows_keeps(forms, others, value), told == "keeps", (forms, others))
            self.assertIs(shows_keeps(elder, newer, value), told == "keeps", (forms, others))
        self.assertGreater(min(seen.values()), 15, seen)

    def test_empty_eithers_that_are_no_more(self):
        elder = Book("none n\nrecord f\n  x f\nlist l f 1 1\neither u f l\ntagged g k\n  a f")
        told = keeps(elder, Book("none n"))
        self.same(told, ("keeps", tuple(sorted([((0, "", "any", ""), (0, name, "any", "")) for name in "fgul"]
                                               + [((0, "", "any", ""), (0, "g", "any", "a"))]))))
        self.assertIs(shows_keeps(elder, Book("none n"), told), True)

    def test_one_thing_otherwise(self):
        source = random.Random(143)
        seen = {True: 0, False: 0}
        for _ in range(120):
            forms = plainly.some_forms(source)
            others = plainly.other_forms(source, forms)
            elder, newer = book_of(forms), book_of(others)
            told = keeps(elder, newer)
            for _ in range(20):
                value = plainly.otherwise(source, told)
                right = plainly.shows_keeps(forms, others, value)
                self.assertIs(shows_keeps(elder, newer, value), right, (forms, others, value))
                seen[right] += 1
            further = book_of(plainly.other_forms(source, others))
            right = plainly.shows_keeps(forms, {name: further[name].form for name in further.names}, told)
            self.assertIs(shows_keeps(elder, further, told), right)
            seen[right] += 1
        self.assertGreater(min(seen.values()), 60, seen)


if __name__ == "__main__":
    unittest.main()
