"""Section 12, but for the Line: documents that are read and written again."""

import copy
import random
import unittest

import greats
import plainly
from asking import NO_ANSWERS, NO_DOCUMENTS, NO_KINDS, TEXT, WIDE, Asking, book_of, deep, deeper
from tagless import passing as module
from tagless.back import reads_back
from tagless.books import Book
from tagless.errors import NoDocument, NoKind, NoReading, TooLarge, TooMany
from tagless.lots import lots
from tagless.passing import passed, passes, shows_steady, shows_ways, steady, way, ways

BOOK = Book(TEXT)

FIELDS = "abcdefgh"


def wide_text(many):
    """The text of a book with a lot for each set of so many fields."""
    lines = ["none n"]
    for field in FIELDS[:many]:
        lines += [f"record r{field} open", f"  {field} n"]
    return "\n".join(lines)


class TestExamples(Asking):

    def test_the_example_of_the_section(self):
        self.same(list(passes(BOOK, "u", {"x": 1, "z": None})), [{"x": 1, "z": None}, {"x": 1}])

    def test_functions_are_defined_in_the_file(self):
        for name in "passed passes way ways shows_ways steady shows_steady".split():
            self.assertEqual(getattr(module, name).__module__, "tagless.passing")


class TestPassed(Asking):

    def test_rows(self):
        rows = [("u", {"x": 1, "z": None}, {"x": 1}), ("u", {"x": 1}, {"x": 1}), ("n", 3, 3),
                ("g", {"k": "two", "x": 1, "y": "", "z": 1}, {"k": "two", "x": 1, "y": ""}),
                ("b", {"k": "two", "x": 1, "y": ""}, {"x": 1, "y": ""})]
        for kind, document, right in rows:
            kept = copy.deepcopy(document)
            self.same(passed(BOOK, kind, document), right)
            self.same(passed(book=BOOK, kind=kind, document=document), right)
            self.same(document, kept)

    def test_what_is_told_is_new(self):
        document = {"x": 1}
        told = passed(BOOK, "a", document)
        told["x"] = 2
        self.same(document, {"x": 1})
        book = Book("none n\nlist l n 0 *\nlist k l 0 *")
        inner = [None]
        told = passed(book, "k", [inner, inner])
        told[0].append(1)
        self.same(told, [[None, 1], [None]])

    def test_errors(self):
        for function in (passed, passes):
            for kind in NO_KINDS:
                self.refused(NoKind, kind, function, BOOK, kind, (1,))
            for document in NO_DOCUMENTS:
                self.refused(NoDocument, document, function, BOOK, "u", document)
            for document in ({}, {"x": 10}, [], 0, {"x": 1, "y": 1}):
                self.refused(NoReading, document, function, BOOK, kind="u", document=document)
                with self.assertRaises(NoReading) as caught:
                    list(function(BOOK, "u", document))
                self.assertIs(caught.exception.value, document)


class TestPasses(Asking):

    def test_it_ends_where_nothing_changes(self):
        self.same(list(passes(book=BOOK, kind="n", document=1)), [1])
        self.same(list(passes(BOOK, "a", {"x": 1})), [{"x": 1}])

    def test_several_passes(self):
        book = Book("none n\nrecord a open\n  x n\n  z v ?\nrecord c open\n  x n\n  y n\neither v c a\nlist l v 0 *")
        document = [{"x": None, "z": {"x": None, "q": 1}, "q": 1}]
        self.same(list(passes(book, "l", document)), [document, [{"x": None, "z": {"x": None}}]])
        # What is in y falls together with the extra.
        book = Book("none n\nrecord a\n  x n\n  y w ?\nrecord b open\n  x n\n  y w ?\nrecord w open\neither u a b\nlist l u 0 *")
        document = [{"x": None, "y": {"p": 1}, "q": 1}]
        self.same(list(passes(book, "l", document)), [document, [{"x": None, "y": {}}]])

    def test_a_long_row(self):
        # Of two fields the second is let as an extra only as long as the first one is there.
        lines = ["none n"]
        names = FIELDS[:5]
        for at, name in enumerate(names):
            wanted = [f"  {field} n" for field in names[:at]]
            lines += [f"record r{name} open"] + wanted
        lines += ["record s"] + [f"  {field} n" for field in names]
        book = Book("\n".join(lines + ["either u s re rd rc rb ra"]))
        whole = {field: None for field in names}
        self.same(list(passes(book, "u", dict(whole, z=1)))[0], dict(whole, z=1))
        told = list(passes(book, "u", dict(whole, z=1)))
        self.same(told, [dict(whole, z=1), {field: None for field in names[:4]}])

    def test_turning_several_times(self):
        # c reads just what is in x, and a what is not; what falls there is not missed by c.
        book = Book("none n\nrecord e open\nrecord k\n  p n\nrecord a open\n  x e\nrecord b open\n  x k\n  z n\n"
                    "record c open\n  x k\n  y n\neither v c b\neither u v a\nlist l u 1 1\nrecord q open\n  f l\neither w q e")
        document = {"f": [{"x": {"p": None}, "y": None, "z": None, "o": 0}], "g": 1}
        told = list(passes(book, "w", document))
        self.same(told, [document, {"f": [{"x": {"p": None}, "y": None}]}])
        told = list(passes(book, "w", {"f": [{"x": {"p": None, "q": None}, "y": None}]}))
        self.same(told, [{"f": [{"x": {"p": None, "q": None}, "y": None}]}, {"f": [{"x": {}}]}])

    def test_what_is_told_may_be_changed_at_once(self):
        document = {"x": 1, "z": [None]}
        told = []
        for step in passes(BOOK, "u", document):
            told.append(copy.deepcopy(step))
            step.clear()
            document.clear()
        self.same(told, [{"x": 1, "z": [None]}, {"x": 1}])

    def test_it_is_a_generator(self):
        told = passes(BOOK, "u", {"x": 1, "z": None})
        self.same(next(told), {"x": 1, "z": None})
        self.same(next(told), {"x": 1})
        with self.assertRaises(StopIteration):
            next(told)

    def test_by_a_plain_look(self):
        source = random.Random(121)
        lengths = {}
        for _ in range(60):
            forms = plainly.some_forms(source)
            book = book_of(forms)
            documents = plainly.documents(forms, 3)
            for document in source.sample(documents, min(len(documents), 60)):
                for name in plainly.lot(forms, document):
                    right = [document]
                    while len(right) < 2 or not plainly.same(right[-1], right[-2]):
                        right.append(plainly.written(forms, plainly.first(forms, name, right[-1])))
                    self.same(list(passes(book, name, document)), right[:-1])
                    self.same(passed(book, name, document), right[1])
                    lengths[len(right) - 1] = lengths.get(len(right) - 1, 0) + 1
        self.assertGreater(min(lengths.get(1, 0), lengths.get(2, 0)), 50)


class TestWay(Asking):

    def test_rows(self):
        lot_a, lot_b = ("a", "b", "u"), ("b", "u")
        rows = [(None, ()), (1, (("n", ("n",), True),)), ({"x": 1}, tuple((name, lot_a, True) for name in "abu")),
                ({"x": 1, "z": 1}, (("b", lot_a, True), ("u", lot_a, False))),
                ({"x": 1, "y": ""}, (("b", lot_b, True), ("u", lot_b, True))),
                ({"x": 1, "k": "one"}, (("b", lot_a, True), ("g", ("b", "g", "u"), True), ("u", lot_a, False)))]
        for document, right in rows:
            self.same(way(BOOK, document), right)
            self.same(way(book=BOOK, document=document), right)

    def test_the_member_can_stay_while_what_it_reads_changes(self):
        book = Book("none n\nrecord a\n  x n\nrecord b open\n  x n\nrecord r\n  f u ?\neither u a b\neither v r n")
        self.assertEqual([row for row in way(book, {"f": {"x": None, "y": 1}}) if row[0] == "v"], [("v", ("r", "v"), False)])
        self.assertEqual([row for row in way(book, {"f": {"x": None}}) if row[0] == "v"], [("v", ("r", "v"), True)])

    def test_no_document(self):
        for document in NO_DOCUMENTS:
            self.refused(NoDocument, document, way, BOOK, document)

    def test_by_a_plain_look(self):
        source = random.Random(122)
        for _ in range(40):
            forms = plainly.some_forms(source)
            book = book_of(forms)
            documents = plainly.documents(forms, 3)
            for document in source.sample(documents, min(len(documents), 80)):
                self.same(way(book, document), plainly.way(forms, document))


class TestWays(Asking):

    def test_the_book_of_the_examples(self):
        told = ways(BOOK)
        self.same(ways(book=BOOK), told)
        self.assertEqual([row[0] for row in told], sorted(row[0] for row in told))
        self.assertEqual(len(told), 8)
        for row in told:
            self.same(way(BOOK, row[1]), row[0])
        self.assertIs(shows_ways(book=BOOK, value=told), True)

    def test_too_many(self):
        book = Book(wide_text(8))
        self.refused(TooMany, 200, ways, book)
        self.assertIs(shows_ways(book, ()), False)
        for name in ("n", "ra"):
            self.refused(TooMany, 200, steady, book, name)
            self.assertIs(shows_steady(book, name, ("turns", None)), False)

    def test_few_lots_can_have_too_many_ways(self):
        # What stands in each of the five fields can turn or not, by itself.
        text = "none n\nrecord p\n  x n\nrecord o open\n  x n\neither w p o"
        # Of four: 81 without x, 81 with x and an extra, that of x alone, and that of None.
        for many, right in ((4, 81 + 81 + 2), (5, None)):
            lines = [f"record q{field} open\n  {field} w" for field in FIELDS[:many]]
            book = Book("\n".join([text] + lines))
            self.assertLess(len(lots(book)), 100)
            if right is None:
                self.refused(TooMany, 200, ways, book)
                self.refused(TooMany, 200, steady, book, "n")
                self.assertIs(shows_ways(book, ()), False)
                self.assertIs(shows_steady(book, "w", ("turns", {"x": None, "y": None})), False)
            else:
                self.assertEqual(len(ways(book)), right)
                self.assertIs(shows_steady(book, "w", ("turns", {"x": None, "y": None})), True)

    def test_200_and_201(self):
        text = wide_text(7)
        for at in range(7):
            text += f"\nword s{FIELDS[at]} " + " ".join(word_of(number) for number in range(1, 72) if number >> at & 1)
        told = ways(Book(text))
        self.assertEqual(len(told), 200)
        self.assertIs(shows_ways(Book(text), told), True)
        self.assertEqual(steady(Book(text), "n")[0], "steady")
        further = Book(text + "\nbool o")
        self.refused(TooMany, 200, ways, further)
        self.refused(TooMany, 200, steady, further, "o")
        self.assertIs(shows_ways(further, told), False)
        self.assertIs(shows_steady(further, "o", ("steady", told)), False)

    def test_least_documents(self):
        book = Book(greats.text_with(*greats.great("q", 500)))
        self.assertEqual(max(plainly.size(row[1]) for row in ways(book)), 500)
        book = Book(greats.text_with(*greats.great("s", 501)))
        self.refused(TooLarge, 500, ways, book)
        self.refused(TooLarge, 500, steady, book, "n")
        # One that turns is told, whatever else could not be.
        book = Book(greats.text_with("record o open", "record p", "either u p o", *greats.great("s", 501)[:5]))
        self.assertEqual(steady(book, "u")[0], "turns")
        self.refused(TooMany, 200, ways, Book("\n".join([wide_text(8)] + greats.BLOCKS[1:5] + ["list i d 4 4"])))

    def test_what_is_told_is_new(self):
        told = ways(BOOK)
        for _, document in told:
            if isinstance(document, dict):
                document.clear()
        self.assertIs(shows_ways(BOOK, ways(BOOK)), True)


def word_of(number):
    """A word for a number."""
    return "w" + "abcdefghi"[number % 9] + "abcdefghi"[number // 9]


class TestSteady(Asking):

    def test_rows(self):
        rows = [(TEXT, "u", 3), (TEXT, "b", None), (TEXT, "g", None), (WIDE, "u", None), (WIDE.replace("a c", "c a"), "u", None),
                ("none n\nrecord a\n  x n\nrecord b open\n  x n\neither u a b\nlist l u 2 *", "l", 6),
                ("none n\nrecord a\n  x n\nrecord b open\n  x n\neither u a b\nlist l u 0 0", "l", None),
                ("none n\nrecord a\n  x n\nrecord b open\n  x n\neither u b a", "u", None),
                ("none n\nrecord a\n  x n\nrecord b open\n  x n\neither u a b\nrecord c\n  f u\ntagged g k\n  p c", "g", 5),
                ("record e\n  f e\nrecord a\nrecord b open\n  f e ?\neither u a b", "u", 2)]
        for text, kind, right in rows:
            book = Book(text)
            forms = {name: book[name].form for name in book.names}
            told = steady(book, kind)
            if right is None:
                self.same(told, ("steady", ways(book)))
            else:
                self.assertEqual((told[0], plainly.size(told[1])), ("turns", right), (text, kind, told))
                self.assertTrue(plainly.turns(plainly.way(forms, told[1]), kind))
            self.assertIs(shows_steady(book, kind, told), True)

    def test_a_steady_kind_need_not_read_back(self):
        book = Book(WIDE)
        self.assertEqual((steady(book, "u")[0], reads_back(book, "u")[0]), ("steady", "lost"))

    def test_arguments(self):
        self.same(steady(book=BOOK, kind="u"), steady(BOOK, "u"))
        self.assertIs(shows_steady(book=BOOK, kind="u", value=("turns", {"x": 3, "z": []})), True)
        for kind in NO_KINDS:
            self.refused(NoKind, kind, steady, BOOK, kind)
            self.refused(NoKind, kind, shows_steady, BOOK, kind, None)

    def test_a_document_that_turns_may_be_of_any_size(self):
        self.assertIs(shows_steady(BOOK, "u", ("turns", {"x": 3, "z": [[]] * 2000})), True)
        self.assertIs(shows_steady(BOOK, "u", ("turns", {"x": 3, "y": "", "z": [[]] * 2000})), False)

    def test_what_is_too_large_to_turn(self):
        lines = greats.great("s", 501) + ["record o open"] + greats.great("s", 501)[1:]
        book = Book(greats.text_with(*lines, "either e s o"))
        self.refused(TooLarge, 500, steady, book, "e")
        lines = [line for line in greats.great("q", 500)[:-1]]
        book = Book(greats.text_with(*lines, "record o open", *lines[1:], "either e q o"))
        told = steady(book, "e")
        self.assertEqual((told[0], plainly.size(told[1])), ("turns", 500))
        self.assertIs(shows_steady(book, "e", told), True)


class TestAgainstAllSmallDocuments(Asking):

    def test_ways_and_steady(self):
        source = random.Random(123)
        seen = {"steady": 0, "turns": 0}
        for _ in range(70):
            forms = plainly.some_forms(source)
            book = book_of(forms)
            least = {}
            for document in plainly.documents(forms, 3):
                least.setdefault(plainly.way(forms, document), plainly.size(document))
            told = ways(book)
            self.assertEqual([row[0] for row in told], sorted({row[0] for row in told}))
            for mark, document in told:
                self.same(plainly.way(forms, document), mark)
                many = plainly.size(document)
                self.assertEqual(least.get(mark), many if many <= 3 else None, (mark, document))
            self.assertEqual(set(least) - {row[0] for row in told}, set())
            for name in forms:
                answer = steady(book, name)
                seen[answer[0]] += 1
                turning = [many for mark, many in least.items() if plainly.turns(mark, name)]
                if answer[0] == "steady":
                    self.assertEqual(turning, [])
                    self.same(answer, ("steady", told))
                else:
                    self.assertTrue(plainly.turns(plainly.way(forms, answer[1]), name))
                    many = plainly.size(answer[1])
                    self.assertEqual(min(turning, default=None), many if many <= 3 else None)
                if reads_back(book, name)[0] == "back":
                    self.assertEqual(answer[0], "steady")
        self.assertGreater(min(seen.values()), 10)

    def test_documents_of_four_parts(self):
        source = random.Random(124)
        for _ in range(2):
            forms = plainly.some_forms(source)
            least = {}
            for document in plainly.documents(forms, 4):
                least.setdefault(plainly.way(forms, document), plainly.size(document))
            told = {row[0]: plainly.size(row[1]) for row in ways(book_of(forms))}
            self.assertEqual({mark: many for mark, many in told.items() if many <= 4}, least)

    def test_records_of_several_fields(self):
        # Fields that hold unions, extras that are let by some and not by others, and tags among them.
        source = random.Random(125)
        for _ in range(25):
            forms = {"n": ("int", 0, 0), "t": ("word", ("p", "q"))}
            inner = ["n", "t", "e", "u"]
            forms["e"] = ("record", source.random() < 0.5, (("x", "n", source.random() < 0.5),))
            for name in "abc":
                fields = source.sample(["x", "y", "k"], 2) if name == "c" else ["x", "y"]
                forms[name] = ("record", source.random() < 0.5,
                               tuple((field, source.choice(inner), source.random() < 0.5) for field in fields))
            forms["g"] = ("tagged", "k", tuple((word, source.choice("ab")) for word in source.sample("pqr", 2)))
            forms["u"] = ("either", tuple(source.sample(["a", "b", "c", "e", "g", "n"], 4)))
            forms["v"] = ("either", tuple(source.sample(["a", "c", "g", "u"], 3)))
            book = book_of(forms)
            least = {}
            for document in plainly.documents(forms, 3):
                least.setdefault(plainly.way(forms, document), plainly.size(document))
            told = ways(book)
            for mark, document in told:
                self.same(plainly.way(forms, document), mark)
            sizes = {row[0]: plainly.size(row[1]) for row in told}
            self.assertEqual({mark: many for mark, many in sizes.items() if many <= 3}, least)


class TestShows(Asking):

    def test_what_is_no_answer(self):
        for value in NO_ANSWERS + [deep(90), deeper(90), ("turns", deep(80)), ("turns", deeper(80))]:
            self.assertIs(shows_ways(BOOK, value), False, value)
            for kind in "nug":
                self.assertIs(shows_steady(BOOK, kind, value), False, value)

    def test_other_truths_and_lists(self):
        told = ways(BOOK)
        at = [number for number, row in enumerate(told) if row[0] and row[0][0][0] == "n"][0]
        mark, document = told[at]
        for other in ((("n", ("n",), 1),), (("n", ["n"], True),), [("n", ("n",), True)], (["n", ("n",), True],), (("n", ("n",), False),),
                      (("n", ("n",)),), (("n", "n", True),), (("n", ("n", "t"), True),), (("t", ("n",), True),), ()):
            value = told[:at] + ((other, document),) + told[at + 1:]
            self.assertIs(shows_ways(BOOK, value), False, other)
            self.assertIs(shows_steady(BOOK, "b", ("steady", value)), False, other)
        for other, right in ((5, True), (10, False), (True, False), ((5,), False), ([5], False)):
            value = told[:at] + ((mark, other),) + told[at + 1:]
            self.assertIs(shows_ways(BOOK, value), right, other)
            self.assertIs(shows_steady(BOOK, "b", ("steady", value)), right, other)
            self.assertIs(shows_steady(BOOK, "u", ("steady", value)), False)

    def test_what_is_no_document_within_extras(self):
        told = ways(BOOK)
        at = [tuple(name for name, _, _ in row[0]) for row in told].index(("b", "u"))
        mark = told[at][0]
        self.assertIs(mark[1][2], False)
        for document, right in (({"x": 1, "z": [1]}, True), ({"x": 1, "z": [(1,)]}, False), ({"x": 1, "Z": 1}, False),
                                ({"x": 1, 5: 1}, False)):
            value = told[:at] + ((mark, document),) + told[at + 1:]
            self.assertIs(shows_ways(BOOK, value), right)
            self.assertIs(shows_steady(BOOK, "b", ("steady", value)), right)
            self.assertIs(shows_steady(BOOK, "u", ("turns", document)), right)

    def test_one_thing_otherwise(self):
        source = random.Random(126)
        seen = {True: 0, False: 0}
        for _ in range(40):
            forms = plainly.some_forms(source)
            book = book_of(forms)
            told = ways(book)
            right = [row[0] for row in told]
            self.assertIs(shows_ways(book, told), True)
            for _ in range(15):
                value = plainly.otherwise(source, told)
                wanted = plainly.shows_rows(value, right, lambda document: plainly.way(forms, document))
                self.assertIs(shows_ways(book, value), wanted, value)
                seen[wanted] += 1
            for name in forms:
                answer = steady(book, name)
                self.assertIs(shows_steady(book, name, answer), True)
                for _ in range(3):
                    value = plainly.otherwise(source, answer)
                    wanted = plainly.shows_steady(forms, name, value, right)
                    self.assertIs(shows_steady(book, name, value), wanted, value)
                    seen[wanted] += 1
        self.assertGreater(min(seen.values()), 30)


if __name__ == "__main__":
    unittest.main()
