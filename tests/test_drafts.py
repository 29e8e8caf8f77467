"""Section 14: drafts, the roads by which they can still be read, and what is wanted for them."""

import copy
import random
import unittest

import plainly
from asking import NO_DOCUMENTS, NO_KINDS, TEXT, WIDE, Asking, book_of, deep, deeper
from tagless import drafts as module
from tagless.books import Book
from tagless.drafts import Draft
from tagless.errors import BadDraft, BadField, BadRoad, Clash, NoDocument, NoField, NoKind, TooMany
from tagless.lines import Line
from tagless.lots import lots

BOOK = Book(TEXT)

WIDE_BOOK = Book(WIDE)

NO_NAMES = [None, True, 0, 1, "", "X", "toolongname", "x\n", "a b", (), ("x",), [], ["x"], {}, {"x": 1}, [[{}]]]

FIELDS = "abcdefgh"


def draft_of(book, kind, known):
    draft = Draft(book, kind)
    for field, document in known.items():
        draft[field] = document
    return draft


def with_many_lots(lines):
    """A book with more than 200 lots, and these lines."""
    told = ["none n"]
    for field in FIELDS:
        told += [f"record r{field} open", f"  {field} n"]
    return Book("\n".join(told + lines))


class TestExamples(Asking):

    def test_the_examples_of_the_section(self):
        draft = Draft(WIDE_BOOK, "u")
        draft["x"] = 4
        self.same([draft.roads(), draft.sure(), draft.wants(("a",)), len(draft), "y" in draft], [(("a",),), ("a",), (), 1, False])
        draft = Draft(Book("int n 0 9\nrecord p\n  x n\nrecord q open\neither u p q"), "u")
        self.same([draft.roads(), draft.wants(("p",)), draft.wants(("q",))], [(("p",), ("q",)), ("x",), ()])

    def test_it_is_defined_in_the_file(self):
        self.assertEqual(Draft.__module__, module.__name__)
        for name in "__setitem__ __getitem__ __contains__ __len__ __eq__ __ior__ take is_part_of roads sure wants book known " \
                    "document kind".split():
            self.assertIn(name, vars(Draft))


class TestFields(Asking):

    def test_of_a_kind(self):
        for kind in NO_KINDS:
            self.refused(NoKind, kind, Draft, BOOK, kind)
        draft = Draft(book=BOOK, kind="u")
        self.assertTrue(draft.book == BOOK)
        self.same([draft.kind, draft.known, draft.document, len(draft)], ["u", (), {}, 0])

    def test_known_fields(self):
        draft = Draft(BOOK, "n")
        draft["y"] = [1, {"x": None}]
        draft["x"] = True
        draft["abcdefgh"] = "a"
        self.same([draft.known, len(draft), draft["x"], draft["y"]], [("abcdefgh", "x", "y"), 3, True, [1, {"x": None}]])
        self.same(draft.document, {"y": [1, {"x": None}], "x": True, "abcdefgh": "a"})
        draft["x"] = 1
        self.same([draft["x"], len(draft)], [1, 3])
        self.assertIsNone(draft.take("x"))
        self.assertIsNone(draft.take(field="abcdefgh"))
        self.same([draft.known, draft.document], [("y",), {"y": [1, {"x": None}]}])
        for value in NO_NAMES + ["x", "y ", deep(90), deeper(90)]:
            self.assertIs(value in draft, False, value)
        self.assertIs("y" in draft, True)

    def test_wrong_fields(self):
        draft = draft_of(BOOK, "u", {"x": 1})
        for field in NO_NAMES:
            with self.assertRaises(BadField) as caught:
                draft[field] = (1,)
            self.same(caught.exception.value, field)
            self.refused(NoField, field, lambda at: draft[at], field)
            self.refused(NoField, field, draft.take, field)
        for field in ("y", "xx"):
            self.refused(NoField, field, lambda at: draft[at], field)
            self.refused(NoField, field, draft.take, field)
        for value in NO_DOCUMENTS:
            for field in ("x", "y"):
                with self.assertRaises(NoDocument) as caught:
                    draft[field] = value
                self.assertIs(caught.exception.value, value)
        self.same(draft.document, {"x": 1})

    def test_copies(self):
        inner = {"x": [1]}
        draft = Draft(BOOK, "u")
        draft["y"] = inner
        inner["x"].append(2)
        for told in (draft["y"], draft.document["y"]):
            self.same(told, {"x": [1]})
            told["x"].append(3)
            told["z"] = 4
        told = draft.document
        told["q"] = 1
        self.same(draft.document, {"y": {"x": [1]}})
        other = Draft(BOOK, "u")
        other |= draft
        told = other["y"]
        told["x"].append(5)
        draft["y"] = None
        self.same([other.document, draft.document], [{"y": {"x": [1]}}, {"y": None}])

    def test_it_is_not_iterated_over(self):
        with self.assertRaises(TypeError):
            list(draft_of(BOOK, "u", {"x": 1}))

    def test_equality(self):
        one = draft_of(BOOK, "u", {"x": 1, "y": [{"a": 1, "b": 2}]})
        self.assertTrue(one == draft_of(Book(TEXT), "u", {"y": [{"b": 2, "a": 1}], "x": 1}))
        self.assertFalse(one != draft_of(Book(TEXT), "u", {"y": [{"b": 2, "a": 1}], "x": 1}))
        for other in (draft_of(BOOK, "b", one.document), draft_of(Book(TEXT + "\nnone z"), "u", one.document),
                      draft_of(BOOK, "u", {**one.document, "x": True}), draft_of(BOOK, "u", {"x": 1}), one.document, None, BOOK,
                      Line(BOOK, "u"), ("u",), [one]):
            self.assertFalse(one == other)
            self.assertTrue(one != other)


class TestTwoDrafts(Asking):

    def test_is_part_of(self):
        whole = draft_of(BOOK, "u", {"x": 1, "y": [1]})
        for known, right in (({}, True), ({"x": 1}, True), ({"x": 1, "y": [1]}, True), ({"x": True}, False), ({"z": 1}, False),
                             ({"y": [True]}, False), ({"x": 1, "z": 1}, False), ({"x": 2}, False)):
            for kind in ("u", "n"):
                draft = draft_of(WIDE_BOOK, kind, known)
                self.assertIs(draft.is_part_of(whole), right)
                self.assertIs(draft.is_part_of(other=whole), right)
        self.assertIs(whole.is_part_of(draft_of(BOOK, "u", {"x": 1})), False)
        self.assertIs(whole.is_part_of(whole), True)

    def test_bad_draft(self):
        draft = draft_of(BOOK, "u", {"x": 1})
        for value in (None, True, 1, "u", (), [], {}, {"x": 1}, ("u",)):
            self.refused(BadDraft, value, draft.is_part_of, value)
        for value in (BOOK, [draft], (draft,), {"x": draft}, Line(BOOK, "u")):
            with self.assertRaises(BadDraft) as caught:
                draft.is_part_of(value)
            self.assertIs(caught.exception.value, value)

    def test_both_together(self):
        draft = kept = draft_of(BOOK, "u", {"x": 1})
        draft |= draft_of(WIDE_BOOK, "n", {"y": [2], "x": 1, "z": None})
        self.assertIs(draft, kept)
        self.same([draft.document, draft.kind], [{"x": 1, "y": [2], "z": None}, "u"])
        self.assertTrue(draft.book == BOOK)
        draft |= draft
        draft |= Draft(BOOK, "u")
        self.same(draft.document, {"x": 1, "y": [2], "z": None})

    def test_clash(self):
        for known, field in (({"x": True, "a": 1}, "x"), ({"z": 1, "y": 2, "x": 1}, "y"), ({"y": [1, 2], "a": 0, "z": 4}, "y"),
                             ({"a": 0, "z": "3"}, "z")):
            draft = draft_of(BOOK, "u", {"x": 1, "y": [1], "z": 3})
            other = draft_of(BOOK, "u", known)
            with self.assertRaises(Clash) as caught:
                draft |= other
            self.same(caught.exception.value, field)
            self.same([draft.document, other.document], [{"x": 1, "y": [1], "z": 3}, known])

    def test_of_what_is_no_draft(self):
        for value in (None, True, 1, "u", (), [], {}, {"x": 1}, BOOK, Line(BOOK, "u")):
            draft = draft_of(BOOK, "u", {"x": 1})
            with self.assertRaises((TypeError, NoDocument)) as caught:
                draft |= value
            self.assertIs(type(caught.exception), TypeError)
            self.same(draft.document, {"x": 1})
        with self.assertRaises(TypeError):
            Draft(BOOK, "u") | Draft(BOOK, "u")


def roads_of(book, kind, known):
    return draft_of(book, kind, known).roads()


class TestRoads(Asking):

    def test_of_what_is_no_union(self):
        for kind, known, right in (("n", {}, ()), ("n", {"x": 1}, ()), ("t", {}, ()), ("a", {}, ((),)), ("a", {"x": 1}, ((),)),
                                   ("a", {"x": 10}, ()), ("a", {"y": ""}, ()), ("b", {"y": "", "z": 1}, ((),)), ("b", {"y": 1}, ())):
            draft = draft_of(BOOK, kind, known)
            self.same(draft.roads(), right)
            self.same(draft.sure(), () if right else None)
            if right:
                self.same(draft.wants(()), ("x",) if "x" not in known else ())
            else:
                self.refused(BadRoad, (), draft.wants, ())
        for text in ("record f\n  x f", "none f\nlist l f 0 *", "none f\nbool g\neither u f g"):
            book = Book(text)
            self.same(roads_of(book, book.names[-1], {}), ())
            self.assertIsNone(draft_of(book, book.names[-1], {}).sure())

    def test_of_unions(self):
        rows = [("u", {}, {("a",): ("x",), ("b",): ("x",)}), ("u", {"x": 1}, {("a",): (), ("b",): ()}), ("u", {"y": ""}, {("b",): ("x",)}),
                ("u", {"z": None}, {("b",): ("x",)}), ("u", {"x": ""}, {}), ("u", {"y": 1}, {}),
                ("g", {}, {("one",): ("k", "x"), ("two",): ("k", "x")}), ("g", {"y": ""}, {("two",): ("k", "x")}),
                ("g", {"k": "one"}, {("one",): ("x",)}), ("g", {"k": "one", "y": ""}, {}), ("g", {"k": "three"}, {}),
                ("g", {"k": None}, {}), ("g", {"k": "two", "x": 3, "q": 1}, {("two",): ()})]
        for kind, known, right in rows:
            draft = draft_of(BOOK, kind, known)
            self.same(draft.roads(), tuple(right))
            self.same(draft.sure(), list(right)[0] if len(right) == 1 else None)
            for road, wanted in right.items():
                self.same(draft.wants(road), wanted)
                self.same(draft.wants(road=road), wanted)
            self.same(draft.document, known)

    def test_unions_within_unions(self):
        book = Book("int n 0 9\ntext t\nrecord a\n  x n\nrecord b\n  x t\n  y n ?\nrecord c\n  x n\n  y n\ntagged g k\n  one a\n"
                    "  two c\n  three c\neither u b a\neither v g u\neither w n v c")
        rows = [({}, {("v", "g", "one"): ("k", "x"), ("v", "g", "two"): ("k", "x", "y"), ("v", "g", "three"): ("k", "x", "y"),
                      ("v", "u", "b"): ("x",), ("v", "u", "a"): ("x",), ("c",): ("x", "y")}),
                ({"y": 1}, {("v", "g", "two"): ("k", "x"), ("v", "g", "three"): ("k", "x"), ("v", "u", "b"): ("x",), ("c",): ("x",)}),
                ({"k": "three"}, {("v", "g", "three"): ("x", "y")}), ({"x": 3}, {("v", "g", "one"): ("k",), ("v", "g", "two"): ("k", "y"),
                                                                                ("v", "g", "three"): ("k", "y"), ("v", "u", "a"): (),
                                                                                ("c",): ("y",)}),
                ({"x": ""}, {("v", "u", "b"): ()}), ({"z": 1}, {})]
        for known, right in rows:
            draft = draft_of(book, "w", known)
            self.same(draft.roads(), tuple(right))
            for road, wanted in right.items():
                self.same(draft.wants(road), wanted, )

    def test_words_that_are_known_to_others(self):
        # Both words lead to the same record, but one of them fits a record that stands ahead.
        book = Book("word w one\nnone n\nrecord a\n  k w\n  x n\nrecord r\n  x n\ntagged g k\n  one r\n  two r\neither u a g")
        draft = Draft(book, "u")
        self.same([draft.roads(), draft.wants(("g", "two")), draft.wants(("a",))], [(("a",), ("g", "two")), ("k", "x"), ("k", "x")])
        draft["k"] = "one"
        self.same([draft.roads(), draft.sure()], [(("a",),), ("a",)])
        book = Book("none n\nrecord r\n  x n\ntagged h k\n  two r\n  four r\ntagged g k\n  one r\n  two r\neither u h g")
        self.same(Draft(book, "u").roads(), (("h", "two"), ("h", "four"), ("g", "one")))

    def test_words_in_their_sequence(self):
        book = Book("none n\nbool o\nrecord r\n  x n\nrecord s\n  x o\ntagged h k\n  two s\n  three s\n  one s\n"
                    "tagged g k\n  one r\n  two r\neither u g h")
        right = (("g", "one"), ("g", "two"), ("h", "two"), ("h", "three"), ("h", "one"))
        self.same(Draft(book, "u").roads(), right)
        book = Book(book.text.replace("u g h", "u h g"))
        self.same(Draft(book, "u").roads(), right[2:] + right[:2])

    def test_some_further_field_must_come(self):
        book = Book("int n 0 9\nrecord p\n  x n\nrecord q open\n  x n\neither u p q")
        draft = draft_of(book, "u", {"x": 1})
        self.same([draft.roads(), draft.wants(("q",))], [(("p",), ("q",)), ()])
        book = Book("int n 0 9\nrecord p\n  x n ?\n  y n ?\nrecord q open\nrecord r open\n  x n\n  y n\neither u p r q")
        draft = Draft(book, "u")
        self.same([draft.roads(), draft.wants(("r",)), draft.wants(("q",))], [(("p",), ("r",), ("q",)), ("x", "y"), ()])

    def test_fields_that_the_book_does_not_name(self):
        book = Book("int n 0 9\nrecord p open\n  x n\nrecord q\n  x n\neither u q p")
        for name in ("a", "b", "aa", "ab", "k", "other"):
            draft = draft_of(book, "u", {name: [name]})
            self.same([draft.roads(), draft.wants(("p",))], [(("p",),), ("x",)])

    def test_bad_road(self):
        draft = draft_of(BOOK, "u", {"y": ""})
        for road in (None, True, (), ("a",), ["b"], "b", ("b", "b"), (("b",),), ("b", ()), 0, {}, [], {"b": 1}, deep(90), deeper(90)):
            self.refused(BadRoad, road, draft.wants, road)
        self.same(draft.wants(("b",)), ("x",))

    def test_too_many(self):
        book = with_many_lots(["int i 0 9", "record c", "  x i", "either u i c"])
        for kind in ("n", "i", "u", "c"):
            for known in ({}, {"x": 1}):
                draft = draft_of(book, kind, known)
                self.refused(TooMany, 200, draft.roads)
                self.refused(TooMany, 200, draft.sure)
                for road in ((), ("c",), None, ("zz",)):
                    self.refused(TooMany, 200, draft.wants, road)

    def test_many_books(self):
        source = random.Random(151)
        several = wanted = tags = 0
        for _ in range(400):
            forms = plainly.some_forms(source)
            book = book_of(forms)
            pool = self.pool(forms, book)
            fields = plainly.names_of_fields(forms)
            kinds = [name for name in forms if forms[name][0] in ("record", "either", "tagged")]
            for _ in range(6):
                known = {field: source.choice(pool) for field in source.sample(fields + ["more"], source.randint(0, 2))}
                further = [field for field in fields if field not in known]
                if not kinds or (len(pool) + 1) ** (len(further) - ("other" in further)) > 700:
                    continue
                kind = source.choice(kinds)
                draft = draft_of(book, kind, known)
                right = plainly.roads(forms, kind, known, pool)
                ordered = sorted(right, key=lambda road: plainly.road_places(forms, kind, road))
                self.same(draft.roads(), tuple(ordered), (forms, kind, known))
                self.same(draft.sure(), ordered[0] if len(ordered) == 1 else None)
                for road in ordered:
                    fields_told = tuple(sorted(field for field in right[road] if field != "other"))
                    self.same(draft.wants(road), fields_told, (forms, kind, known, road))
                    wanted += len(fields_told) > 0
                    tags += len(road) > 1 and forms[kind][0] == "either"
                several += len(ordered) > 1
        self.assertGreater(min(several, wanted, tags), 60, (several, wanted, tags))

    def pool(self, forms, book):
        """Documents of all lots, and all strings that a tag can be, no two alike in both."""
        told = {}
        words = {word for form in forms.values() if form[0] == "tagged" for word, _ in form[2]}
        for document in [document for _, document in lots(book)] + sorted(words):
            mark = (plainly.lot(forms, document), document if type(document) is str and document in words else None)
            told.setdefault(mark, document)
        return list(told.values())

    def test_calls_change_nothing(self):
        draft = draft_of(BOOK, "u", {"y": "", "q": [1]})
        kept = copy.deepcopy(draft.document)
        self.same([draft.roads(), draft.roads(), draft.sure(), draft.sure()], [(("b",),), (("b",),), ("b",), ("b",)])
        draft.wants(("b",))
        self.same(draft.document, kept)
        draft.take("y")
        draft.take("q")
        self.same(draft.roads(), (("a",), ("b",)))


if __name__ == "__main__":
    unittest.main()
