"""Section 15: changes of a book, and the cheapest choice of them by which nothing is lost."""

import itertools
import random
import unittest

import greats
import plainly
from asking import NO_ANSWERS, NO_KINDS, TEXT, WIDE, Asking, book_of, deep, deeper
from tagless import repairs as module
from tagless.back import reads_back
from tagless.books import Book
from tagless.errors import BadChanges, BadOffers, BadWish, NoKind, TooLarge, TooMany
from tagless.passing import steady, ways
from tagless.repairs import changed, repaired, shows_repaired
from tagless.single import single

BOOK = Book(TEXT)

WIDE_BOOK = Book(WIDE)

OFFERS = ((("ahead", "u", "c"), 2), (("close", "a"), 1))

SHAPES = Book("int n 0 9\ntext t\nlist l n 0 *\nword w a b\nnone z\nbool o\nrecord r open\n  x n\n  y t ?\n  v l ?\nrecord s\n  x n ?\n"
              "tagged g k\n  one r\n  two s\neither u r s n\neither v u g\neither e o t w z l")

FUNCTIONS = {"one": single, "back": reads_back, "steady": steady}

NO_CHANGES = [None, True, 0, "close", (), ("close",), ("close", "r", "x"), ["close", "r"], ("close", "s"), ("close", "n"), ("close", "g"),
              ("close", "zz"), ("Close", "r"), ("close", 1), ("close", ["r"]), (None, "r"), ("want", "r"), ("want", "r", "x"),
              ("want", "r", "zz"), ("want", "u", "r"), ("want", "r", ("y",)), ("want", "g", "k"), ("want", "r", "y", "v"),
              ("ahead", "u"), ("ahead", "u", "r"), ("ahead", "u", "g"), ("ahead", "r", "x"), ("ahead", "g", "two"), ("ahead", "u", None),
              ("ahead", "u", "s", "n"), ("drop", "v", "u"), ("drop", "u", "g"), ("drop", "u"), ("drop", "g", "one"), ("drop", "u", ["r"]),
              ("drop", "r", "y"), ("widen", "r"), ("widen", "u", "r"), {}, {"close": "r"}, [], ("close", "r\n"), ("", "", "")]


class TestExamples(Asking):

    def test_the_examples_of_the_section(self):
        told = repaired(WIDE_BOOK, "u", OFFERS)
        self.same([told[:3], [row[0] for row in told[4]]], [("choice", 1, (("close", "a"),)), [()]])
        offers = ((("drop", "u", "c"), 1),)
        self.refused(BadOffers, offers, repaired, WIDE_BOOK, "u", offers)

    def test_functions_are_defined_in_the_file(self):
        for name in "changed repaired shows_repaired".split():
            self.assertEqual(getattr(module, name).__module__, "tagless.repairs")


class TestChanged(Asking):

    def test_rows(self):
        rows = [((), []), ((("close", "r"),), [("record r open", "record r")]), ((("want", "r", "y"),), [("  y t ?", "  y t")]),
                ((("want", "s", "x"),), [("record s\n  x n ?", "record s\n  x n")]), ((("ahead", "u", "n"),), [("u r s n", "u n r s")]),
                ((("ahead", "u", "s"),), [("u r s n", "u s r n")]), ((("drop", "u", "r"),), [("u r s n", "u s n")]),
                ((("drop", "u", "n"),), [("u r s n", "u r s")]), ((("ahead", "u", "n"), ("ahead", "u", "s")), [("u r s n", "u s n r")]),
                ((("ahead", "u", "n"), ("ahead", "u", "r"), ("ahead", "u", "n")), [("u r s n", "u n r s")]),
                ((("drop", "e", "t"), ("drop", "e", "o"), ("drop", "e", "z")), [("e o t w z l", "e w l")]),
                ((("want", "r", "v"), ("close", "r"), ("want", "r", "y")), [("record r open", "record r"), ("  y t ?\n  v l ?", "  y t\n  v l")])]
        for changes, replaced in rows:
            text = SHAPES.text
            for old, new in replaced:
                self.assertIn(old, text)
                text = text.replace(old, new)
            self.assertEqual(changed(SHAPES, changes).text, text)
            self.assertTrue(changed(book=SHAPES, changes=changes) == Book(text))

    def test_bad_changes(self):
        for value in (None, True, 0, "close", [], [("close", "r")], {}, {("close", "r"): 1}):
            self.refused(BadChanges, 0, changed, SHAPES, value)
        for value in NO_CHANGES + [deep(90), deeper(90)]:
            self.refused(BadChanges, 1, changed, SHAPES, (value,))
            self.refused(BadChanges, 1, changed, SHAPES, (value, ("close", "r"), value))
            self.refused(BadChanges, 2, changed, SHAPES, (("ahead", "u", "s"), value, None) if value != ("ahead", "u", "r")
                         else (("close", "r"), value))
        for changes, number in (((("close", "r"), ("close", "r")), 2), ((("want", "r", "y"), ("want", "r", "v"), ("want", "r", "y")), 3),
                                ((("drop", "u", "r"), ("drop", "u", "s")), 2), ((("drop", "u", "r"), ("ahead", "u", "r")), 2),
                                ((("drop", "u", "r"), ("ahead", "u", "s")), 2), ((("ahead", "u", "n"), ("ahead", "u", "n")), 2),
                                (("close", "r"), 1), (("close",), 1)):
            self.refused(BadChanges, number, changed, SHAPES, changes)

    def test_many_books(self):
        source = random.Random(161)
        cannot = 0
        for _ in range(60):
            forms = plainly.some_forms(source)
            book = book_of(forms)
            able = plainly.all_changes(forms)
            for change in able:
                told = plainly.done(forms, change)
                self.assertTrue(changed(book, (change,)) == book_of(told))
            for changes in [tuple(source.choices(able, k=3)) for _ in range(10) if able]:
                now, number = forms, 0
                for at, change in enumerate(changes):
                    now = now if number else plainly.done(now, change)
                    number = at + 1 if now is None and not number else number
                if number:
                    cannot += 1
                    self.refused(BadChanges, number, changed, book, changes)
                else:
                    self.assertTrue(changed(book, changes) == book_of(now))
        self.assertGreater(cannot, 50)


class TestRepaired(Asking):

    def looked_at(self, forms, kind, offers, wish):
        """What repaired tells, as all choices are looked at one by one."""
        book = book_of(forms)
        told = repaired(book, kind, offers, wish=wish)
        self.same(told, repaired(book=book, kind=kind, offers=offers, wish=wish))
        self.assertIs(shows_repaired(book, kind, offers, told, wish=wish), True, (forms, kind, offers, told))
        reasons = []
        for price, changes, now in plainly.choices(forms, offers):
            answer = FUNCTIONS[wish](book_of(now), kind)
            if answer[0] == wish:
                self.same(told, ("choice", price, changes, answer, tuple(reasons)))
                return told
            reasons.append((changes, answer))
        self.same(told, ("none", tuple(reasons)))
        return told

    def test_rows(self):
        wide = {name: WIDE_BOOK[name].form for name in WIDE_BOOK.names}
        for offers, right in ((OFFERS, ("choice", 1, (("close", "a"),))), (((("ahead", "u", "c"), 1), (("close", "a"), 1)),
                                                                           ("choice", 1, (("ahead", "u", "c"),))),
                              (((("ahead", "u", "c"), 9),), ("choice", 9, (("ahead", "u", "c"),)))):
            for wish in ("back", "steady", "one"):
                told = self.looked_at(wide, "u", offers, wish)
                if wish == "back":
                    self.same(told[:3], right)
            self.same(repaired(WIDE_BOOK, "u", offers), repaired(WIDE_BOOK, "u", offers, wish="back"))
        self.same(repaired(WIDE_BOOK, "n", OFFERS)[:3], ("choice", 0, ()))
        self.same(repaired(WIDE_BOOK, "n", OFFERS)[4], ())
        self.same(repaired(WIDE_BOOK, "u", ((("ahead", "u", "c"), 2),), wish="one")[0], "none")
        self.same(repaired(WIDE_BOOK, "u", ((("ahead", "u", "c"), 2),), wish="steady")[0:3], ("choice", 0, ()))
        self.same(repaired(WIDE_BOOK, "u", OFFERS, wish="one")[:3], ("choice", 1, (("close", "a"),)))

    def test_several_changes(self):
        book = Book("int n 0 9\nrecord a open\n  x n ?\nrecord b open\n  y n ?\nrecord c\n  z n ?\neither u a b c")
        forms = {name: book[name].form for name in book.names}
        changes = [("close", "a"), ("close", "b"), ("want", "a", "x"), ("want", "b", "y")]
        offers = tuple((change, 1 + at) for at, change in enumerate(changes))
        for wish, many in (("one", 3), ("back", 2), ("steady", 1)):
            told = self.looked_at(forms, "u", offers, wish)
            self.assertEqual([told[0], len(told[2])], ["choice", many], wish)
        for wish, right in (("one", "none"), ("steady", "choice")):
            told = self.looked_at(forms, "u", offers[:3], wish)
            self.assertEqual(told[0], right, wish)

    def test_choices_in_sequence(self):
        book = Book("none n\nrecord a open\n  x n\nrecord b open\n  y n\nrecord c open\n  z n\neither u a b c")
        offers = ((("drop", "u", "a"), 1), (("drop", "u", "b"), 1), (("drop", "u", "c"), 2))
        told = repaired(book, "u", offers, wish="one")
        self.assertEqual([row[0] for row in told[1]], [(), (("drop", "u", "a"),), (("drop", "u", "b"),), (("drop", "u", "c"),)])
        offers = ((("ahead", "u", "b"), 3), (("ahead", "u", "c"), 1), (("close", "a"), 2), (("close", "b"), 2))
        told = repaired(book, "u", offers, wish="one")
        rows = [changes for _, changes, _ in plainly.choices({name: book[name].form for name in book.names}, offers)]
        self.assertEqual([row[0] for row in told[4]] + [told[2]], rows[:len(told[4]) + 1])

    def test_many_books(self):
        source = random.Random(162)
        seen = {}
        for at in range(300):
            forms = plainly.some_forms(source) if at < 200 else self.open_records(source)
            able = plainly.all_changes(forms)
            kinds = [name for name in forms if forms[name][0] == "either" or source.random() < 0.1]
            if not able or not kinds:
                continue
            kind, wish = source.choice(kinds), source.choice(("one", "back", "steady"))
            if FUNCTIONS[wish](book_of(forms), kind)[0] == wish and source.random() < 0.8:
                continue
            changes = sorted(source.sample(able, min(len(able), 6 if at >= 200 else source.choice((1, 2, 6)))))
            offers = tuple((change, source.randint(1, 9)) for change in changes)
            told = self.looked_at(forms, kind, offers, wish)
            many = min(len(told[2]), 2) if told[0] == "choice" else "none"
            seen[many] = seen.get(many, 0) + 1
        self.assertGreater(min(seen[many] for many in (0, 1, 2, "none")), 4, seen)

    def open_records(self, source):
        forms = {"n": ("int", 0, 1)}
        for name in "abc":
            fields = source.sample("xyz", source.randint(1, 2))
            forms[name] = ("record", source.random() < 0.6, tuple((field, "n", source.random() < 0.4) for field in fields))
        forms["u"] = ("either", ("a", "b", "c"))
        return forms


class TestErrors(Asking):

    def refused_by_both(self, error, value, book, kind, offers, wish="back"):
        self.refused(error, value, repaired, book, kind, offers, wish=wish)
        self.refused(error, value, shows_repaired, book, kind, offers, None, wish=wish)

    def test_in_sequence(self):
        for kind in NO_KINDS:
            if kind != "u":
                self.refused_by_both(NoKind, kind, WIDE_BOOK, kind, None, wish="zz")
        for wish in (None, True, "", "two", "Back", ("back",), ["back"], {}, 0, {"back": 1}, "lost"):
            self.refused_by_both(BadWish, wish, WIDE_BOOK, "u", OFFERS, wish=wish)
            self.refused_by_both(BadOffers, (), WIDE_BOOK, "u", (), wish=wish)

    def test_bad_offers(self):
        one, other = OFFERS
        many = tuple((("drop", "e", member), 1) for member in "lotwz") + ((("drop", "u", "n"), 1), (("drop", "u", "r"), 1))
        rows = [None, True, 0, "", (), [], {}, list(OFFERS), (other, one), (one, one), (one, (one[0], 3)), ((one[0], 1), one), (one[0],),
                one, (one + (1,),), ((list(one[0]), 2),), (list(one),), ((one[0], True),), ((one[0], 0),), ((one[0], 10),), ((one[0], -1),),
                ((one[0], "1"),), ((one[0], None),), ((one[0], (1,)),), ((1, one[0]),), ((("ahead", "u", "a"), 1),), ((("close", "c"), 1),),
                (one, other, None), (one, other, (("drop", "u", "a"), 1)), deep(90), deeper(90), (deeper(80),), ((deeper(80), 1),)]
        for offers in rows:
            self.refused_by_both(BadOffers, offers, WIDE_BOOK, "u", offers)
        for offers in [((change, 1),) for change in NO_CHANGES] + [many]:
            self.refused_by_both(BadOffers, offers, SHAPES, "u", offers)
        for offers in (many[:6], many[1:]):
            self.assertEqual(repaired(SHAPES, "n", offers)[0], "choice")
        self.assertEqual(repaired(SHAPES, "n", ((("close", "r"), 9),))[0], "choice")

    def test_wishes_are_by_name_alone(self):
        with self.assertRaises(TypeError):
            repaired(WIDE_BOOK, "u", OFFERS, "back")
        with self.assertRaises(TypeError):
            shows_repaired(WIDE_BOOK, "u", OFFERS, None, "back")

    def test_too_many(self):
        lines = ["none n"]
        for field in "abcdefgh":
            lines += [f"record r{field} open", f"  {field} n ?"]
        lines += ["either u ra rb"]
        book = Book("\n".join(lines))
        offers = ((("close", "ra"), 1), (("close", "rb"), 1))
        with self.assertRaises(TooMany):
            ways(book)
        self.refused(TooMany, 200, repaired, book, "u", offers, wish="steady")
        for value in (None, ("none", ()), ("choice", 0, (), ("steady", ()), ())):
            self.assertIs(shows_repaired(book, "u", offers, value, wish="steady"), False)
        self.assertEqual(repaired(book, "u", offers)[0], "none")

    def test_too_large(self):
        text = greats.text_with(*greats.great("s", 501), "record w open", "  x r", "record v open", "  x r", "either e w s v")
        book = Book(text)
        offers = ((("close", "w"), 1), (("drop", "e", "v"), 2), (("drop", "e", "w"), 2))
        self.refused(TooLarge, 500, reads_back, Book(text.replace("e w s v", "e w s")), "e")
        self.assertEqual(reads_back(book, "e")[0], "lost")
        self.refused(TooLarge, 500, repaired, book, "e", offers)
        self.assertIs(shows_repaired(book, "e", offers, None), False)


class TestShows(Asking):

    def test_what_is_no_answer(self):
        for value in NO_ANSWERS + [("none", ()), ("none", []), ("none",), ("choice", 0, (), ("back", (), ()), ()), deep(90), deeper(90),
                                   ("choice", 1, (("close", "a"),)), ("choice",), ("choice", [], [], [], []), (0, 0, 0, 0, 0),
                                   ("none", None), ("none", (((), ("lost", None)),))]:
            for wish in ("one", "back", "steady"):
                self.assertIs(shows_repaired(WIDE_BOOK, "u", OFFERS, value, wish=wish), False, value)

    def test_other_evidence_and_reasons(self):
        told = repaired(WIDE_BOOK, "u", OFFERS)
        head, price, changes, evidence, reasons = told
        lost = ("lost", ("u", "c", ("c", (("x", ("n", 5)), ("y", ("n", 6))))))
        more = tuple(sorted(evidence[2] + (((0, "a", "any", ""), (0, "n", "any", "")),)))
        for value, right in (((head, price, changes, evidence, (((), lost),)), True), ((head, price, changes, ("back", evidence[1], more), reasons), True),
                             ((head, True, changes, evidence, reasons), False), ((head, 2, changes, evidence, reasons), False),
                             ((head, price, (), evidence, reasons), False), ((head, 0, (), evidence, ()), False),
                             ((head, price, list(changes), evidence, reasons), False), ((head, price, (["close", "a"],), evidence, reasons), False),
                             ((head, price, changes, lost, reasons), False), ((head, price, changes, evidence, ()), False),
                             ((head, price, changes, evidence, (((), evidence),)), False), ((head, price, changes, evidence, list(reasons)), False),
                             ((head, price, changes, evidence, reasons + ((changes, lost),)), False), ((head, price, changes, None, reasons), False),
                             ((head, price, changes, evidence, (((), None),)), False), ((head, price, changes, evidence, ([(), lost],)), False),
                             ((head, price, changes, evidence, ((), )), False), ((head, price, changes, evidence, (([], lost),)), False),
                             (list(told), False), (told + (1,), False), (told[:4], False), (("none", reasons), False), (("none", ()), False)):
            self.assertIs(shows_repaired(WIDE_BOOK, "u", OFFERS, value), right, value)
            self.assertIs(shows_repaired(book=WIDE_BOOK, kind="u", offers=OFFERS, value=value, wish="back"), right, value)
        # The dearer choice would do, too, but it is not the first one.
        evidence = reads_back(changed(WIDE_BOOK, (("ahead", "u", "c"),)), "u")
        self.assertEqual(evidence[0], "back")
        value = (head, 2, (("ahead", "u", "c"),), evidence, reasons + ((changes, lost),))
        self.assertIs(shows_repaired(WIDE_BOOK, "u", OFFERS, value), False)
        offers = ((("ahead", "u", "c"), 1), (("close", "a"), 1))
        value = (head, 1, (("ahead", "u", "c"),), evidence, reasons)
        self.assertIs(shows_repaired(WIDE_BOOK, "u", offers, value), True)
        self.assertIs(shows_repaired(WIDE_BOOK, "u", OFFERS, value), False)

    def test_one_thing_otherwise(self):
        source = random.Random(163)
        seen = {True: 0, False: 0}
        for _ in range(150):
            forms = plainly.some_forms(source)
            able = plainly.all_changes(forms)
            eithers = [name for name in forms if forms[name][0] == "either"]
            if not able or not eithers:
                continue
            book, kind, wish = book_of(forms), source.choice(eithers), source.choice(("one", "back", "steady"))
            changes = sorted(source.sample(able, min(len(able), source.randint(1, 3))))
            offers = tuple((change, source.randint(1, 3)) for change in changes)
            told = repaired(book, kind, offers, wish=wish)
            self.marks = {}
            for _ in range(12):
                value = plainly.otherwise(source, told)
                right = plainly.shows_repaired(forms, offers, value, lambda now, answer: self.shown(now, kind, wish, answer))
                self.assertIs(shows_repaired(book, kind, offers, value, wish=wish), right, (forms, kind, offers, value))
                seen[right] += 1
        self.assertGreater(min(seen.values()), 50, seen)

    def shown(self, forms, kind, wish, answer):
        if wish == "steady":
            key = repr(forms)
            self.marks[key] = self.marks.get(key) or [row[0] for row in ways(book_of(forms))]
            right = plainly.shows_steady(forms, kind, answer, self.marks[key])
            return ("so" if answer[0] == wish else "not") if right else ""
        shows = plainly.shows_single if wish == "one" else plainly.shows_back
        return ("so" if answer[0] == wish else "not") if shows(forms, kind, answer) else ""


if __name__ == "__main__":
    unittest.main()
