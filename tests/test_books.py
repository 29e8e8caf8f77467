"""Section 5: books, their lines, their forms, and the kinds in them."""

import copy
import random
import unittest

import plainly
from tagless.books import Book
from tagless.errors import BadBook, BadForms, Clash, NoKind, Ring, Unnamed
from tagless.kinds import Either, Listed, Plain, Record, Tagged

TEXT = ("int n 0 9\ntext t\nrecord a\n  x n\nrecord b open\n  x n\n  y t ?\neither u a b\n"
        "tagged g k\n  one a\n  two b")

FORMS = (
    ("n", ("int", 0, 9)),
    ("t", ("text",)),
    ("a", ("record", False, (("x", "n", True),))),
    ("b", ("record", True, (("x", "n", True), ("y", "t", False)))),
    ("u", ("either", ("a", "b"))),
    ("g", ("tagged", "k", (("one", "a"), ("two", "b")))),
)

VALUES = [None, True, False, 0, 1, -1, "", "a", "N", "n\n", "toolongname", (), ("n",), [], ["n"], {}, {"n": 1}, [["n"]]]


class Raising(unittest.TestCase):

    def refused(self, error, value, function, /, *arguments, **named):
        with self.assertRaises(error) as caught:
            function(*arguments, **named)
        self.assertIs(type(caught.exception), error)
        told = caught.exception.value
        self.assertTrue(plainly.same(told, value), (told, value))


class TestExamples(Raising):

    def test_the_examples_of_the_section(self):
        book = Book(TEXT)
        self.assertEqual([len(book), book["u"].members, book["g"].fields, {"x": 1, "z": None} in book["u"],
                          {"x": 1, "k": "one"} in book["g"]], [6, ("a", "b"), ("k",), True, True])
        self.refused(Ring, 1, Book, "either u u t\ntext t")

    def test_a_kind_that_may_have_no_documents(self):
        book = Book("record a\n  f a")
        for value in ({}, {"f": {}}, {"f": {"f": None}}):
            self.assertNotIn(value, book["a"])


class TestBook(Raising):

    def test_properties_and_signs(self):
        book = Book(text=TEXT)
        self.assertEqual(book.text, TEXT)
        self.assertEqual(book.names, ("n", "t", "a", "b", "u", "g"))
        self.assertEqual(len(book), 6)
        for name in book.names:
            self.assertIn(name, book)
            self.assertEqual(book[name].name, name)
            self.assertIs(book[name].book, book)
        for value in VALUES + ["z", b"n"]:
            if value != "a":
                self.assertNotIn(value, book)
                self.refused(NoKind, value, book.__getitem__, value)

    def test_classes_of_kinds(self):
        book = Book(TEXT + "\nlist l n 0 *\nnone z\nbool o\nword w p")
        rows = {"n": Plain, "t": Plain, "z": Plain, "o": Plain, "w": Plain, "l": Listed, "a": Record, "b": Record,
                "u": Either, "g": Tagged}
        for name, own in rows.items():
            self.assertIs(type(book[name]), own)
        self.assertEqual(book["l"].item, "n")
        self.assertEqual(book["b"].fields, ("x", "y"))

    def test_equality(self):
        self.assertTrue(Book(TEXT) == Book(TEXT))
        self.assertFalse(Book(TEXT) != Book(TEXT))
        self.assertFalse(Book(TEXT) == Book("text t"))
        self.assertTrue(Book("text t\nnone z") != Book("none z\ntext t"))
        for other in VALUES + [TEXT, FORMS, Book(TEXT)["n"]]:
            self.assertFalse(Book(TEXT) == other)
            self.assertTrue(Book(TEXT) != other)

    def test_equality_of_kinds(self):
        self.assertTrue(Book(TEXT)["n"] == Book(TEXT)["n"])
        self.assertFalse(Book(TEXT)["n"] == Book(TEXT)["t"])
        self.assertFalse(Book(TEXT)["n"] == Book("int n 0 9")["n"])
        self.assertFalse(Book(TEXT)["n"] == "n")

    def test_a_book_is_not_iterated_over(self):
        with self.assertRaises(TypeError):
            list(Book(TEXT))

    def test_properties_cannot_be_set(self):
        for name in ("text", "names"):
            with self.assertRaises(AttributeError):
                setattr(Book(TEXT), name, ())

    def test_what_is_listed_stands_in_the_class_itself(self):
        for name in "__init__ __getitem__ __contains__ __len__ __eq__ __or__ of text names".split():
            self.assertIn(name, vars(Book))
        self.assertEqual(Book.__module__, "tagless.books")

    def test_kinds_told_below_the_line_that_names_them(self):
        book = Book("either u a l\ntagged g k\n  p a\nlist l n 1 2\nrecord a\n  x u ?\nint n 0 0")
        self.assertIn({"x": [0]}, book["u"])
        self.assertIn({"k": "p", "x": {"x": {}}}, book["g"])


# Each form of a line, beside the form of the kind (the first one), with what else has to be there.
RIGHT = [
    ("none a", ("none",)), ("bool a", ("bool",)), ("text a", ("text",)), ("text abcdefgh", ("text",)),
    ("int a 0 0", ("int", 0, 0)), ("int a -9 -3", ("int", -9, -3)), ("int a -999999999 999999999",
                                                                    ("int", -999999999, 999999999)),
    ("word a w", ("word", ("w",))), ("word a z b a", ("word", ("z", "b", "a"))), ("word a a", ("word", ("a",))),
    ("list a a 0 0", ("list", "a", 0, 0)), ("list a a 4 4", ("list", "a", 4, 4)), ("list a a 0 *", ("list", "a", 0, None)),
    ("list a a 4 *", ("list", "a", 4, None)), ("list a a 1 3", ("list", "a", 1, 3)),
    ("record a", ("record", False, ())), ("record a open", ("record", True, ())), ("record open", ("record", False, ())),
    ("record open open", ("record", True, ())),
    ("record a\n  x a\n  b a ?", ("record", False, (("x", "a", True), ("b", "a", False)))),
    ("record a open\n  open a ?", ("record", True, (("open", "a", False),))),
    ("either a b c\nnone b\nnone c", ("either", ("b", "c"))),
    ("either a c b d\nnone b\nnone c\neither d b c", ("either", ("c", "b", "d"))),
    ("tagged a x\n  w b\nrecord b", ("tagged", "x", (("w", "b"),))),
    ("tagged a x\n  w b\n  v b\n  x c\nrecord b\nrecord c open\n  y a", ("tagged", "x", (("w", "b"), ("v", "b"),
                                                                                     ("x", "c")))),
]

# Lines that have none of the forms, or cannot stand there, with the number told.
BAD = [
    ("", 1), ("\n", 1), ("none a\n", 2), ("\nnone a", 1), ("none a\n\nnone b", 2), (" none a", 1), ("  none a", 1),
    ("none", 1), ("none ", 1), ("none a ", 1), ("none  a", 1), ("none a b", 1), ("none A", 1), ("none a1", 1),
    ("none abcdefghi", 1), ("None a", 1), ("nones a", 1), ("none\ta", 1), ("none a\r", 1), ("none a\r\nnone b", 1),
    ("bool a b", 1), ("text", 1), ("text a open", 1), ("kind a", 1),
    ("int a", 1), ("int a 1", 1), ("int a 2 1", 1), ("int a 0 01", 1), ("int a -0 0", 1), ("int a 00 1", 1),
    ("int a 0 +1", 1), ("int a 0 1000000000", 1), ("int a -1000000000 0", 1), ("int a 0 1 2", 1), ("int a 0 *", 1),
    ("int a - 1", 1), ("int a 0 1 ", 1), ("int a 0 1_0", 1), ("int a x 1", 1), ("int a -01 1", 1), ("int a --1 1", 1),
    ("int a 0 \u0661", 1),
    ("word a", 1), ("word a ", 1), ("word a b b", 1), ("word a b B", 1), ("word a b 1", 1), ("word a b  c", 1),
    ("list a", 1), ("list a a", 1), ("list a a 0", 1), ("list a a 0 5", 1), ("list a a 5 *", 1), ("list a a 2 1", 1),
    ("list a a * *", 1), ("list a a -1 1", 1), ("list a a 0 -1", 1), ("list a a 0 1 2", 1), ("list a A 0 1", 1),
    ("list a a 00 1", 1), ("list a a 0 **", 1),
    ("record", 1), ("record a close", 1), ("record a open open", 1), ("record a\n x a", 2), ("record a\n   x a", 2),
    ("record a\n  x", 2), ("record a\n  x a ? ?", 2), ("record a\n  x a !", 2), ("record a\n  x a\n  x a", 3),
    ("record a\n  x a\n  y a\n  x a ?", 4), ("record a\n  X a", 2), ("record a\n  x A", 2), ("record a\n  ", 2),
    ("record a\n  x a ", 2), ("record a\n  x  a", 2), ("record a\n    x a", 2), ("record a\n  x a\n\n  y a", 3),
    ("record a\nx a", 2), ("record a\n\tx a", 2), ("record a\n  x a?", 2),
    ("either a", 1), ("either a b", 1), ("either a b b", 1), ("either a b B", 1), ("either a b c b", 1),
    ("tagged a", 1), ("tagged a x", 2), ("tagged a x y", 1), ("tagged a X", 1), ("tagged a x\n", 2),
    ("tagged a x\nrecord b", 2), ("tagged a x\nnonsense", 2), ("tagged a x\n  w b ?", 2), ("tagged a x\n  w b\n  w b", 3),
    ("tagged a x\n  w", 2), ("record b\ntagged a x", 3), ("tagged a x\n  w b\ntagged c x\ntagged d x", 4),
    ("tagged a x open\n  w b", 1), ("tagged a x\n w b", 2),
    ("none a\n  x a", 2), ("int a 0 1\n  x a", 2), ("either a b c\n  x a", 2), ("list a a 0 0\n  x a", 2),
    ("none a\nnone a", 2), ("none a\nnone b\ntext a", 3), ("record a\n  x a\nrecord a", 3),
]

UNNAMED = [
    ("list a b 0 1", 1), ("none z\nlist a b 0 0", 2), ("either a b c", 1), ("none b\neither a b c", 2),
    ("record a\n  x b", 2), ("record a\n  x a\n  y b ?", 3), ("none z\nrecord a\n  x a\n  y a ?\n  z b", 5),
    ("tagged a x\n  w b", 2), ("tagged a x\n  w b\n  v c\nrecord b", 3), ("tagged a x\n  w n\nnone n", 2),
    ("tagged a x\n  w a", 2), ("tagged a x\n  w u\neither u b c\nrecord b\nrecord c", 2),
    ("record b\n  x b ?\ntagged a x\n  w b", 4), ("record b\n  y b\nrecord c open\n  x b\ntagged a x\n  w b\n  v c", 7),
    ("list l m 0 1\neither a b c", 1), ("record r\n  x r\n  y q\nlist l m 0 1", 3),
]

RINGS = [
    ("either a a b\nnone b", 1), ("either a b c\nnone b\neither c b a", 1), ("none z\neither a z b\neither b z c\neither c z a", 2),
    ("either p z q\nnone z\neither q z r\neither r z q", 3), ("none z\neither a z b\nnone y\neither b y b", 4),
    ("either a b c\neither b c d\neither c d b\nnone d", 2),
]

# An either may lead to itself by what is within lists and records.
NO_RINGS = ["either a l n\nlist l a 0 *\nnone n", "either a r n\nrecord r\n  x a\nnone n",
            "either a b c\neither b c n\neither c n m\nnone n\nnone m", "either a g n\ntagged g k\n  p r\nrecord r\n  x a\nnone n"]


class TestLines(Raising):

    def test_each_form(self):
        for text, form in RIGHT:
            book = Book(text)
            self.assertEqual(book.text, text)
            told = book[book.names[0]].form
            self.assertTrue(plainly.same(told, form), (text, told))

    def test_lines_that_are_none(self):
        for text, number in BAD:
            self.refused(BadBook, number, Book, text)

    def test_what_is_no_string(self):
        for value in [value for value in VALUES if not isinstance(value, str)] + [("text a",), ["text a"], 5]:
            self.refused(BadBook, 0, Book, value)
            self.refused(BadBook, 0, Book, text=value)

    def test_kinds_that_there_are_not(self):
        for text, number in UNNAMED:
            self.refused(Unnamed, number, Book, text)

    def test_rings(self):
        for text, number in RINGS:
            self.refused(Ring, number, Book, text)
        for text in NO_RINGS:
            self.assertEqual(Book(text).text, text)

    def test_the_sequence_of_the_errors(self):
        # A ring in line 1, a missing kind in line 2, a bad line at the end.
        self.refused(BadBook, 4, Book, "either a a b\nlist l m 0 1\nnone b\nnone B")
        self.refused(BadBook, 4, Book, "either a a b\nlist l m 0 1\nnone b\n")
        self.refused(BadBook, 5, Book, "either a a b\nlist l m 0 1\nnone b\ntagged t x")
        self.refused(Unnamed, 2, Book, "either a a b\nlist l m 0 1\nnone b")
        self.refused(Ring, 1, Book, "either a a b\nlist l b 0 1\nnone b")
        self.refused(BadBook, 2, Book, "none a\nnone A\nnone a\nx")

    def test_texts_beyond_the_numbers_of_books(self):
        names = ["".join((one, other)) for one in "abcdefg" for other in "abcdefg"]
        text = "\n".join([f"text {name}" for name in names] + ["either u " + " ".join(names), "record r"]
                         + [f"  {name} {name}" for name in names])
        book = Book(text)
        self.assertEqual((len(book), len(book["u"].members), len(book["r"].fields)), (51, 49, 49))
        self.refused(BadBook, 2 * 49 + 3, Book, text + "\n  x")


class TestOf(Raising):

    def test_a_book_from_forms(self):
        self.assertEqual(Book.of(FORMS).text, TEXT)
        self.assertTrue(Book.of(forms=FORMS) == Book(TEXT))

    def test_each_form_there_and_back(self):
        for text, form in RIGHT:
            book = Book(text)
            again = Book.of(tuple((name, book[name].form) for name in book.names))
            self.assertTrue(again == book)

    def test_what_is_no_book(self):
        wrong = VALUES + [
            (("n", ("int", 0)),), (("n", ("int", 1, 0)),), (("n", ("int", 0, True)),), (("n", ("int", 0, 10 ** 9)),),
            (("n", ("int", 0, 10 ** 5000)),), (("n", ["int", 0, 1]),), [("n", ("int", 0, 1))], (["n", ("int", 0, 1)],),
            (("n", ("int", 0, 1), 0),), (("N", ("int", 0, 1)),), (("n\nnone m", ("none",)),), (("n", ("none", ())),),
            (("n", ("none",)), ("n", ("none",))), (("n", ("word", ())),), (("n", ("word", ("p", "p"))),),
            (("n", ("word", "p")),), (("n", ("word", ["p"])),), (("n", ("word", ("p q",))),), (("n", "none"),), (("n", ()),),
            (("n", (("none",),)),), (("n", ([],)),), (("n", ("kind",)),), (("l", ("list", "l", 0, 5)),),
            (("l", ("list", "l", 2, 1)),), (("l", ("list", "l", None, 1)),), (("l", ("list", "l", 0, "*")),),
            (("l", ("list", "l", False, 1)),), (("l", ("list", "m", 0, 1)),), (("l", ("list", ["l"], 0, 1)),),
            (("r", ("record", 0, ())),), (("r", ("record", True)),), (("r", ("record", True, [])),),
            (("r", ("record", True, (("x", "r"),))),), (("r", ("record", True, (("x", "r", 1),))),),
            (("r", ("record", True, (("x", "r", True), ("x", "r", True)))),), (("r", ("record", None, ())),),
            (("r", ("record", True, (["x", "r", True],))),), (("r", ("record", True, (("x", "q", True),))),),
            (("u", ("either", ("n",))), ("n", ("none",))), (("u", ("either", ("u", "n"))), ("n", ("none",))),
            (("u", ("either", ("n", "n"))), ("n", ("none",))), (("g", ("tagged", "k", ())),),
            (("g", ("tagged", "k", (("p", "n"),))), ("n", ("none",))), (("g", ("tagged", "k", (("p", "r", True),))),
                                                                     ("r", ("record", True, ()))),
            (("g", ("tagged", "x", (("p", "r"),))), ("r", ("record", True, (("x", "r", True),)))),
        ]
        for value in wrong:
            kept = copy.deepcopy(value)
            self.refused(BadForms, value, Book.of, value)
            self.assertTrue(plainly.same(value, kept))

    def test_forms_with_one_thing_otherwise(self):
        source = random.Random(5)
        taken = 0
        for _ in range(3000):
            value = plainly.otherwise(source, FORMS)
            try:
                book = Book.of(value)
            except BadForms as error:
                self.assertIs(error.value, value)
            else:
                taken += 1
                self.assertTrue(plainly.same(tuple((name, book[name].form) for name in book.names), value))
        self.assertGreater(taken, 50)


class TestOr(Raising):

    def test_the_kinds_of_one_then_those_of_other(self):
        one = Book("none a\nlist b a 0 *")
        other = Book("text c\nnone a\nrecord d\n  x c\n  y a ?\neither e a c")
        self.assertEqual((one | other).text, "none a\nlist b a 0 *\ntext c\nrecord d\n  x c\n  y a ?\neither e a c")
        self.assertEqual((other | one).text, other.text + "\nlist b a 0 *")
        self.assertTrue(one | one == one)

    def test_clashes(self):
        one = Book("none a\ntext b\nnone c")
        with self.assertRaises(Clash) as caught:
            one | Book("none d\nbool c\nbool b")
        self.assertEqual(caught.exception.value, "c")
        for first, second in (("int a 0 1", "int a 0 2"), ("record a", "record a open"), ("record a\n  x a", "record a\n  x a ?"),
                              ("list a a 0 *", "list a a 0 4"), ("word a p q", "word a q p"),
                              ("record a\n  x a\n  y a", "record a\n  y a\n  x a"), ("none a", "bool a")):
            with self.assertRaises(Clash) as caught:
                Book(first) | Book(second)
            self.assertEqual(caught.exception.value, "a")

    def test_what_is_no_book(self):
        book = Book(TEXT)
        for other in VALUES + [TEXT, FORMS, book["n"]]:
            with self.assertRaises(TypeError):
                book | other
            with self.assertRaises(TypeError):
                other | book

    def test_nothing_is_changed(self):
        one, other = Book("none a"), Book("none b")
        one | other
        self.assertEqual((one.text, other.text), ("none a", "none b"))


class TestKindsOfBooks(unittest.TestCase):

    def test_by_a_plain_look(self):
        source = random.Random(11)
        for _ in range(25):
            forms = plainly.some_forms(source)
            book = Book.of(plainly.rows(forms))
            documents = plainly.documents(forms, 3)
            for document in source.sample(documents, min(len(documents), 60)):
                for name in forms:
                    told = plainly.first(forms, name, document)
                    self.assertIs(document in book[name], told is not None)
                    if told is not None:
                        self.assertTrue(plainly.same(book[name](document), told))


if __name__ == "__main__":
    unittest.main()
