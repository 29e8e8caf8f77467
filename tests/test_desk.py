"""Section 18: a desk, and its answers line by line."""

import random
import unittest

import greats
import plainly
from asking import NO_DOCUMENTS, TEXT, WIDE, Asking, book_of, deep, deeper
from tagless import desk as module
from tagless.back import reads_back
from tagless.books import Book
from tagless.desk import Desk
from tagless.errors import (BadJournal, BadLine, BadMember, Broken, NoKind, NoNumber, NoReading, NotEither, NothingToRedo, NothingToUndo,
                            NotKept, TaglessError, TooLarge, TooMany, Turned)
from tagless.growth import places
from tagless.journals import read_journal
from tagless.lots import lot
from tagless.orders import orders
from tagless.passing import passed, steady
from tagless.readings import fits, how_many, written
from tagless.shelf import Shelf
from tagless.single import single
from tagless.texts import show_document
from test_journals import FIRST, LINES, NO_DEEDS

WIDE_LINES = "|" + WIDE.replace("\n", "|")

# What are no lines, whatever is on the shelf.
NO_LINES = ["", " ", "undo ", " undo", "undo 1", "Undo", "redo ", "redo 0", "show", "show ", "show 0 ", "show  0", "show 00", "show -1", "show -0",
            "show x", "show 0 0", "show 1234567890", "read", "read ", "read 01", "read -1", "read u", "fits", "fits u", "fits u ", "fits  u 1",
            "fits u  1", "fits u 1 ", "fits U 1", "fits u {x:1}", "fits u {x: 01}", "fits 1 1", "fits toolongname 1", "fits u x", "many", "many u",
            "many u [1,2]", "many u [1, 2] ", "pass", "pass u", "pass u {", "pass u -0", "pass {x: 1}", "single", "single ", "single u ", "single  u",
            "single u u", "single U", "single 1", "single toolongname", "back", "back ", "back u b", "back U", "steady", "steady ", "steady u ",
            "orders", "orders ", "orders u 1", "orders U", "orders u ", "lot", "lot ", "lot  1", "lot 1 ", "lot x", "lot -0", "lot [1,2]", "lot {x: 1,}",
            "places", "places u", "places u ", "places  u a", "places u  a", "places u a ", "places u a a", "places U a", "places u A", "places u 1",
            "keep", "trial", "copy", "help", "fit u 1", "singles u", "lots", "ways", "show: 0", "show\t0", "show 0\n", "single u\n", "lay", "put",
            "put u", "put u ", "put u {x:1}", "put U {x: 1}", "put u x", "put toolongname 1", "put 1 1", "put  u 1", "put n 1 ", "lay |", "lay |int n",
            "lay " + TEXT, "lay " + LINES + "|", "lay whole", "lay whole  " + LINES, "lay |none n\n|none m", "lay |either u u n|none n",
            "lay |list l t 0 *", "pass_on", "pass_on ", "pass_on 00", "pass_on -1", "pass_on 0 ", "pass_on x", "pass_on 1234567890", "take", "take 00",
            "take -1", "take 0 1", "take x", "take 0 ", FIRST, "document 0", "|", "read\n0", "no", "yes", "-", "0"]


class TestDesk(Asking):

    def desk(self, *lines):
        return Desk((FIRST,) + lines)

    def answers(self, desk, rows):
        for line, right in rows:
            self.same(desk.say(line), right, line)

    def test_it_is_defined_in_the_file(self):
        self.assertEqual(Desk.__module__, module.__name__)
        self.assertIn("say", vars(Desk))
        self.assertIn("shelf", vars(Desk))

    def test_a_shelf_by_its_journal(self):
        desk = Desk(lines=(FIRST, "put n 1", "take 0"))
        self.same([desk.shelf.journal, desk.shelf.numbers], [(FIRST, "put n 1", "take 0"), ()])
        self.assertIs(desk.shelf, desk.shelf)
        for value, number in ((None, 0), ([FIRST], 0), (FIRST, 0), ((), 1), (("zz",), 1), ((None,), 1), ((FIRST, "undo"), 2),
                              ((FIRST, "put n 1", "take 1"), 3), (deep(90), 0)):
            self.refused(BadJournal, number, Desk, value)

    def test_deeds(self):
        desk = self.desk()
        self.answers(desk, [("put n 1", "0"), ("put u {x: 1, y: \"\", z: []}", "1"), ("put b {x: 1, z: -}", "2"), ("pass_on 1", "yes"), ("pass_on 1", "no"),
                            ("take 0", "ok"), ("lay " + LINES, "1"), ("lay " + LINES + "|none zz", "2"), ("undo", "ok"), ("undo", "ok"), ("redo", "ok"),
                            ("put n 2", "3"), ("undo", "ok"), ("undo", "ok"), ("lay " + LINES, "1")])
        self.same(desk.shelf.journal, (FIRST, "put n 1", 'put u {x: 1, y: "", z: []}', "put b {x: 1, z: -}", "pass_on 1", "pass_on 1", "take 0",
                                       "lay " + LINES))
        self.same(desk.say(line="put n 3"), "3")
        settled = LINES.replace("b open", "b").replace("  y t ?", "  y t")
        desk = Desk(("shelf " + settled,))
        self.answers(desk, [("lay whole " + settled, "1"), ("lay whole " + settled + "|none zz", "2")])
        self.same([row[2] for row in desk.shelf.deeds], [True, True])

    def test_questions(self):
        desk = self.desk("put u {x: 1, z: -}", "put n 7", 'put g {k: "two", x: 0}', 'put t "a\\"b"')
        kept = desk.shelf.journal
        self.answers(desk, [("show 0", "{x: 1, z: -}"), ("show 1", "7"), ("read 0", "u.b(b{x: n=1})"), ("read 1", "n=7"),
                            ("read 2", "g.two(b{x: n=0})"), ("read 3", 't="a\\"b"'), ("show 3", '"a\\"b"'), ("fits u {x: 1}", "yes"), ("fits a {}", "no"),
                            ("fits n 10", "no"), ("many u {x: 1}", "2"), ("many n 10", "0"), ("many u {x: 1, z: 1}", "1"), ("pass u {x: 1, z: 1}", "{x: 1}"),
                            ("pass n 3", "3"), ('pass g {k: "one", x: 1}', '{k: "one", x: 1}'), ("single n", "yes"), ("single u", "no {x: 0}"),
                            ("back g", "yes"), ("back u", "no {x: 0}"), ("steady a", "yes"), ("orders u", "ring"), ("lot {x: 1}", "a b u"),
                            ("lot 3", "n"), ("lot -", "-"), ("lot [1, 2]", "-"), ("places u g", "-"), ("places u t", "-")])
        self.assertTrue(desk.say("steady u").startswith("no {"))
        self.same(desk.shelf.journal, kept)

    def test_readings(self):
        lines = "|int n 0 9|none z|bool o|text t|list l u 0 *|record e|record r|  b u|  a n ?|record s open|tagged g k|  one r|  two e|either u n l r g s z o"
        desk = Desk(("shelf " + lines,))
        for number, (line, right) in enumerate((("put l []", "l[]"), ("put l [1, [], 2]", "l[u.n(n=1), u.l(l[]), u.n(n=2)]"), ("put e {}", "e{}"),
                                                ("put u -", "u.z(z=-)"), ("put u yes", "u.o(o=yes)"), ("put u no", "u.o(o=no)"),
                                                ("put r {a: 1, b: [0]}", "r{a: n=1, b: u.l(l[u.n(n=0)])}"), ("put u {b: 3}", "u.r(r{b: u.n(n=3)})"),
                                                ('put u {k: "two"}', "u.g(g.two(e{}))"), ('put g {b: -, k: "one"}', "g.one(r{b: u.z(z=-)})"),
                                                ("put s {a: 1, zz: 2}", "s{}"), ('put t "u.n(n=1)"', 't="u.n(n=1)"'), ('put t ""', 't=""'))):
            self.same(desk.say(line), str(number))
            self.same(desk.say(f"read {number}"), right)

    def test_orders_and_places(self):
        desk = Desk(("shelf " + WIDE_LINES,))
        self.answers(desk, [("orders u", "c a"), ("places u n", "-"), ("lay " + WIDE_LINES.replace("u a c", "u c a"), "1"), ("orders u", "c a"),
                            ("places u n", "0 1 2"), ("back u", "yes"), ("lay |none n|bool o|either u n o|text t", "2"), ("places u t", "0 1 2"),
                            ("orders u", "n o"), ("undo", "ok"), ("undo", "ok"), ("back u", "no {x: 0, y: 0}"), ("places u n", "-")])
        shop = "|int n 0 9|text t|record a open|  x n|record c|  x n|  y t|either u a t"
        self.answers(Desk(("shelf " + shop,)), [("places u c", "0 1 2"), ("places u n", "0 1 2")])

    def test_by_the_newest_edition(self):
        desk = self.desk("put n 5")
        self.answers(desk, [("fits n 10", "no"), ("lay |int n 0 10", "1"), ("fits n 10", "yes"), ("lot {x: 1}", "-"), ("read 0", "n=5")])
        self.refused(NoKind, "u", desk.say, "single u")
        desk.say("undo")
        self.same(desk.say("single a"), "yes")

    def test_no_lines(self):
        desk = self.desk("put n 1")
        desk.say("undo")
        values = [None, True, 0, (), ("undo",), [], ["undo"], {}, {"undo": 1}, deep(90), deeper(90)] + NO_DOCUMENTS
        # What a shelf refuses is a line all the same.
        words = ("put", "lay", "take", "pass_on", "pass", "undo", "redo", "show")
        further = [line for line in NO_DEEDS if line.split(" ")[0] not in words]
        for line in NO_LINES + values + further:
            self.refused(BadLine, line, desk.say, line)
        desk.say("redo")
        self.same(desk.shelf.numbers, (0,))
        desk.shelf.put("n", 2)
        self.same([desk.say("show 1"), desk.shelf.journal[2]], ["2", "put n 2"])

    def test_what_the_shelf_and_the_functions_raise(self):
        desk = self.desk("put u {x: 1, z: -}")
        kept = desk.shelf.journal
        rows = [("show 1", NoNumber, 1), ("read 7", NoNumber, 7), ("take 1", NoNumber, 1), ("pass_on 999999999", NoNumber, 999999999), ("pass_on 0", Turned, 0),
                ("put zz 1", NoKind, "zz"), ("put n 10", NoReading, 10), ("put n {x: 1}", NoReading, {"x": 1}), ("lay |int n 0 9", Broken, 0),
                ("lay whole " + LINES, NotKept, reads_back(Book(TEXT), "u")[1]), ("redo", NothingToRedo, None), ("fits zz 1", NoKind, "zz"),
                ("many zz 1", NoKind, "zz"), ("pass zz 1", NoKind, "zz"), ("pass n 10", NoReading, 10), ("single zz", NoKind, "zz"), ("back zz", NoKind, "zz"),
                ("steady zz", NoKind, "zz"), ("orders zz", NoKind, "zz"), ("orders g", NotEither, "g"), ("places n n", NotEither, "n"),
                ("places zz n", NoKind, "zz"), ("places u zz", NoKind, "zz"), ("places u a", BadMember, "a"), ("places u u", BadMember, "u")]
        for line, error, value in rows:
            self.refused(error, value, desk.say, line)
            self.same(desk.shelf.journal, kept)
        desk.say("undo")
        self.refused(NothingToUndo, None, desk.say, "undo")
        lines = ["none n"]
        for field in "abcdefgh":
            lines += [f"record r{field} open", f"  {field} n"]
        self.refused(TooMany, 200, Desk(("shelf |" + "|".join(lines),)).say, "steady n")
        text = greats.text_with(*greats.great("s", 501), "record w open", "  x r", "either e w s n").replace("\n", "|")
        desk = Desk(("shelf |" + text,))
        for line in ("orders e", "back e"):
            self.refused(TooLarge, 500, desk.say, line)

    def test_a_desk_and_a_shelf(self):
        """The same deeds and questions, said to a desk and asked of a shelf and the functions."""
        source = random.Random(181)
        told = {}
        for _ in range(60):
            forms = plainly.some_forms(source)
            book = book_of(forms)
            shelf = Shelf(book)
            desk = Desk(shelf.journal)
            pool = plainly.documents(forms, 2) + source.sample(plainly.documents(forms, 3), 40)
            for _ in range(60):
                line, function = self.some_line(source, shelf, forms, pool)
                word = line.split(" ")[0]
                try:
                    right = function()
                except TaglessError as error:
                    self.refused(type(error), error.value, desk.say, line)
                    told[type(error).__name__] = told.get(type(error).__name__, 0) + 1
                else:
                    self.same(desk.say(line), right, line)
                    told[word] = told.get(word, 0) + 1
                self.assertTrue(desk.shelf == shelf)
                self.same(desk.shelf.journal, shelf.journal)
            self.assertTrue(read_journal(desk.shelf.journal) == shelf)
        for word in "put lay pass_on take undo redo show read fits many pass single back steady orders lot places NoNumber NoReading".split():
            self.assertGreater(told.get(word, 0), 20, (word, told))

    def some_line(self, source, shelf, forms, pool):
        """A line, and the function that tells its answer."""
        word = source.choice("put put put put lay pass_on take undo redo show read read fits many pass single back steady orders lot places".split())
        newest = shelf.editions[-1]
        kind, other = source.choice(sorted(newest.names)), source.choice(sorted(forms))
        eithers = [name for name in newest.names if newest[name].form[0] == "either"]
        if word in ("orders", "places") and eithers:
            kind = source.choice(eithers)
        document = source.choice(pool)
        fitting = lot(newest, document)
        if word in ("put", "many", "pass") and fitting:
            kind = source.choice(fitting)
        number = source.choice(shelf.numbers or (0,)) if source.random() < 0.8 else source.randrange(9)
        text = show_document(document)
        if word == "lay":
            newer = book_of(plainly.other_forms(source, forms))
            whole = source.random() < 0.4
            return ("lay whole |" if whole else "lay |") + newer.text.replace("\n", "|"), lambda: str(shelf.lay(newer, whole=whole))
        yes = {True: "yes", False: "no"}
        rows = {
            "put": (f"put {kind} {text}", lambda: str(shelf.put(kind, document))),
            "pass_on": (f"pass_on {number}", lambda: yes[shelf.pass_on(number)]),
            "take": (f"take {number}", lambda: shelf.take(number) or "ok"),
            "undo": ("undo", lambda: shelf.undo() or "ok"),
            "redo": ("redo", lambda: shelf.redo() or "ok"),
            "show": (f"show {number}", lambda: show_document(shelf.document_at(number))),
            "read": (f"read {number}", lambda: self.plain_text(newest, shelf.reading_at(number))),
            "fits": (f"fits {kind} {text}", lambda: yes[fits(newest, kind, document)]),
            "many": (f"many {kind} {text}", lambda: str(how_many(newest, kind, document))),
            "pass": (f"pass {kind} {text}", lambda: show_document(passed(newest, kind, document))),
            "single": (f"single {kind}", lambda: self.answer(single(newest, kind), "one")),
            "back": (f"back {kind}", lambda: self.answer(reads_back(newest, kind), "back", newest)),
            "steady": (f"steady {kind}", lambda: self.answer(steady(newest, kind), "steady")),
            "orders": (f"orders {kind}", lambda: self.sequence(newest, kind)),
            "lot": (f"lot {text}", lambda: " ".join(lot(newest, document)) or "-"),
            "places": (f"places {kind} {other}", lambda: " ".join(map(str, places(newest, kind, other))) or "-"),
        }
        return rows[word]

    def answer(self, told, right, book=None):
        if told[0] == right:
            return "yes"
        return "no " + show_document(told[1] if book is None else written(book, told[1]))

    def sequence(self, book, kind):
        told = orders(book, kind)
        return "ring" if told[0] == "ring" else " ".join(book[kind].members[number] for number in told[1])

    def plain_text(self, book, reading):
        """A reading, as the section tells it."""
        name, sort = reading[0], book[reading[0]].form[0]
        if sort == "list":
            return name + "[" + ", ".join(self.plain_text(book, told) for told in reading[1]) + "]"
        if sort == "record":
            return name + "{" + ", ".join(field + ": " + self.plain_text(book, told) for field, told in reading[1]) + "}"
        if sort in ("either", "tagged"):
            return name + "." + reading[1] + "(" + self.plain_text(book, reading[2]) + ")"
        return name + "=" + show_document(reading[1])


if __name__ == "__main__":
    unittest.main()
