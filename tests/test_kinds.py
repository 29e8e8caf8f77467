"""The last paragraphs of section 5: kinds, their properties, what fits them and how it is read."""

import copy
import random
import unittest

from tagless import kinds
from tagless.documents import is_document
from tagless.errors import NoDocument, NoReading
from tagless.kinds import Either, Fielded, Kind, Listed, Membered, Plain, Record, Tagged, kind_of

# The book of the examples in sections 5 and 6, with a kind of each further form.
FORMS = {
    "n": ("int", 0, 9),
    "t": ("text",),
    "a": ("record", False, (("x", "n", True),)),
    "b": ("record", True, (("x", "n", True), ("y", "t", False))),
    "u": ("either", ("a", "b")),
    "g": ("tagged", "k", (("one", "a"), ("two", "b"))),
    "z": ("none",),
    "o": ("bool",),
    "w": ("word", ("red", "blue")),
    "l": ("list", "n", 1, 2),
    "m": ("list", "l", 0, None),
    "e": ("record", False, ()),
    "d": ("record", True, (("q", "z", False), ("c", "o", False), ("p", "d", False))),
    "v": ("either", ("u", "w", "y")),
    "y": ("either", ("g", "n", "b")),
}


class Text:
    """Stands for a book: equal if the texts are."""

    def __init__(self, text):
        self.text = text

    def __eq__(self, other):
        return isinstance(other, Text) and self.text == other.text


def kind(name, forms=FORMS, book="book"):
    return kind_of(book, name, forms)


class TestClasses(unittest.TestCase):

    def test_what_stands_below_what(self):
        for lower, bases in ((Kind, (object,)), (Plain, (Kind,)), (Listed, (Kind,)), (Fielded, (Kind,)),
                             (Membered, (Kind,)), (Record, (Fielded,)), (Either, (Membered,)),
                             (Tagged, (Fielded, Membered))):
            self.assertEqual(lower.__bases__, bases)
            self.assertEqual(lower.__module__, "tagless.kinds")

    def test_the_class_hangs_on_the_form(self):
        rows = {Plain: "ntzow", Listed: "lm", Record: "abed", Either: "uvy", Tagged: "g"}
        for own, names in rows.items():
            for name in names:
                self.assertIs(kind(name).__class__, own)

    def test_what_is_listed_stands_in_the_class_itself(self):
        for own, names in ((Kind, "name book form __eq__ __contains__ __call__"), (Listed, "item"),
                           (Fielded, "fields"), (Membered, "members")):
            for name in names.split():
                self.assertIn(name, vars(own))


class TestProperties(unittest.TestCase):

    def test_name_book_and_form(self):
        book = Text("a")
        for name, form in FORMS.items():
            told = kind_of(book, name, FORMS)
            self.assertEqual(told.name, name)
            self.assertIs(told.book, book)
            self.assertEqual(told.form, form)

    def test_item(self):
        self.assertEqual([kind("l").item, kind("m").item], ["n", "l"])

    def test_fields(self):
        rows = {"a": ("x",), "b": ("x", "y"), "e": (), "d": ("c", "p", "q"), "g": ("k",)}
        for name, fields in rows.items():
            self.assertEqual(kind(name).fields, fields)

    def test_members(self):
        rows = {"u": ("a", "b"), "v": ("u", "w", "y"), "y": ("g", "n", "b"), "g": ("one", "two")}
        for name, members in rows.items():
            self.assertEqual(kind(name).members, members)

    def test_members_stand_in_the_sequence_of_their_lines(self):
        forms = {"r": ("record", False, ()), "s": ("tagged", "k", (("z", "r"), ("a", "r"), ("m", "r")))}
        self.assertEqual(kind("s", forms).members, ("z", "a", "m"))

    def test_kinds_have_no_properties_of_others(self):
        for name, missing in (("n", "item"), ("n", "fields"), ("n", "members"), ("l", "fields"), ("l", "members"),
                              ("a", "members"), ("a", "item"), ("u", "fields"), ("u", "item"), ("g", "item")):
            self.assertFalse(hasattr(kind(name), missing))

    def test_properties_cannot_be_set(self):
        for name, slot in (("n", "name"), ("n", "book"), ("n", "form"), ("l", "item"), ("g", "fields"),
                           ("g", "members")):
            with self.assertRaises(AttributeError):
                setattr(kind(name), slot, "x")

    def test_a_kind_does_not_change_with_the_forms_that_were_handed_in(self):
        forms = dict(FORMS)
        told = kind("l", forms)
        forms["l"] = forms["n"] = ("text",)
        self.assertEqual(told.form, ("list", "n", 1, 2))
        self.assertIn([1], told)
        self.assertNotIn(["1"], told)


class TestEquality(unittest.TestCase):

    def test_equal_if_books_and_names_are(self):
        self.assertTrue(kind_of(Text("a"), "n", FORMS) == kind_of(Text("a"), "n", FORMS))
        self.assertFalse(kind_of(Text("a"), "n", FORMS) != kind_of(Text("a"), "n", FORMS))

    def test_unlike_books_or_names(self):
        self.assertFalse(kind_of(Text("a"), "n", FORMS) == kind_of(Text("b"), "n", FORMS))
        self.assertFalse(kind_of(Text("a"), "n", FORMS) == kind_of(Text("a"), "t", FORMS))
        self.assertTrue(kind_of(Text("a"), "n", FORMS) != kind_of(Text("a"), "u", FORMS))

    def test_equal_to_nothing_else(self):
        for other in ("n", ("int", 0, 9), None, True, 0, [], {}, Text("a"), FORMS["n"]):
            self.assertFalse(kind("n") == other)
            self.assertFalse(other == kind("n"))
            self.assertTrue(kind("n") != other)


# For each kind what fits it, and what does not.
FITTING = {
    "n": ([0, 5, 9], [-1, 10, True, False, None, "5", [5], {"x": 5}]),
    "t": (["", "a", "red", "a\n"], [None, 0, True, ["a"], {"a": "a"}]),
    "z": ([None], [False, 0, "", [], {}]),
    "o": ([True, False], [1, 0, None, "True", []]),
    "w": (["red", "blue"], ["", "green", "re", "redblue", None, ["red"], {"red": 1}]),
    "l": ([[0], [1, 9]], [[], [1, 2, 3], [10], [True], ["1"], [[1]], None, {"x": 1}]),
    "m": ([[], [[1]], [[1], [2, 3], [4], [5], [6], [7]]], [[1], [[]], [[1], []], [[1], [2], [3], [4], [10]], {}]),
    "a": ([{"x": 0}], [{}, {"x": 10}, {"x": True}, {"y": 0}, {"x": 0, "y": "t"}, [], [0], None]),
    "b": ([{"x": 0}, {"x": 0, "y": "t"}, {"y": "", "x": 0}, {"x": 1, "z": None, "k": [[]]}],
          [{}, {"y": "t"}, {"x": 0, "y": 0}, {"x": "0"}, {"z": 1}, ["x"], "x"]),
    "e": ([{}], [{"x": 0}, [], None, False, ""]),
    "d": ([{}, {"q": None}, {"c": True, "p": {"p": {"z": [1]}}}, {"z": 1}],
          [{"q": 0}, {"c": 0}, {"p": None}, {"p": {"p": {"c": 1}}}, []]),
    "u": ([{"x": 1}, {"x": 1, "z": None}, {"x": 1, "y": "t"}], [{"x": 1, "y": 1}, {}, {"z": 1}, 1]),
    "g": ([{"x": 1, "k": "one"}, {"k": "two", "x": 1}, {"k": "two", "x": 1, "y": "", "z": []}],
          [{"x": 1}, {"k": "one"}, {"k": "three", "x": 1}, {"k": "one", "x": 1, "y": "t"}, {"k": True, "x": 1},
           {"k": None, "x": 1}, {"k": ["one"], "x": 1}, {"k": "two", "x": 1, "y": 1}, "one", ["k"], {}]),
    "v": ([{"x": 1}, "red", {"x": 1, "k": "one"}, 9], ["green", 10, None, {}, [1]]),
}


class TestContains(unittest.TestCase):

    def test_what_fits_and_what_does_not(self):
        for name, (fitting, others) in FITTING.items():
            for document in fitting:
                self.assertIs(document in kind(name), True, (name, document))
            for document in others:
                self.assertIs(document in kind(name), False, (name, document))

    def test_what_is_no_document_fits_nothing(self):
        for value in ((), (1,), [(1,)], {"X": 1}, {1: 1}, {"x": 1, "": 0}, {"x": 1, "zz\n": 0}, {"x": 1, "z": (0,)},
                      {"x": 1, "z": [{"toolongname": 1}]}):
            for name in FORMS:
                self.assertIs(value in kind(name), False, (name, value))

    def test_the_edges_of_an_int(self):
        told = kind("i", {"i": ("int", -3, -3)})
        self.assertEqual([number for number in range(-9, 9) if number in told], [-3])

    def test_the_lengths_of_a_list(self):
        for low in range(5):
            for high in (0, 1, 2, 3, 4, None):
                told = kind("l", {"l": ("list", "z", low, high), "z": ("none",)})
                fitting = [many for many in range(9) if [None] * many in told]
                self.assertEqual(fitting, [many for many in range(9) if low <= many <= (9 if high is None else high)])

    def test_a_kind_without_documents(self):
        told = kind("f", {"f": ("record", False, (("f", "f", True),))})
        for value in ({}, {"f": {}}, {"f": {"f": {}}}, None, []):
            self.assertNotIn(value, told)

    def test_the_tag_is_no_extra(self):
        forms = {"e": ("record", False, ()), "s": ("tagged", "k", (("a", "e"),))}
        self.assertIn({"k": "a"}, kind("s", forms))
        self.assertNotIn({"k": "a", "l": "a"}, kind("s", forms))

    def test_deep_values(self):
        forms = {"l": ("list", "l", 0, None), "r": ("record", False, (("r", "r", False),))}
        nest, chain = [], {}
        for _ in range(89):
            nest, chain = [nest], {"r": chain}
        self.assertIn(nest, kind("l", forms))
        self.assertIn(chain, kind("r", forms))
        self.assertNotIn([nest, chain], kind("l", forms))

    def test_nothing_is_changed(self):
        document = {"k": "two", "x": 1, "z": [{"a": [0]}]}
        self.assertIn(document, kind("g"))
        kind("g")(document)
        self.assertEqual(document, {"k": "two", "x": 1, "z": [{"a": [0]}]})


class TestCall(unittest.TestCase):

    def test_the_examples_of_section_6(self):
        self.assertEqual(kind("u")({"x": 1, "z": None}), ("u", "b", ("b", (("x", ("n", 1)),))))
        self.assertEqual(kind("u")({"x": 1}), ("u", "a", ("a", (("x", ("n", 1)),))))
        with self.assertRaises(NoReading) as caught:
            kind("g")({"k": "one", "x": "q"})
        self.assertEqual(caught.exception.value, {"k": "one", "x": "q"})

    def test_readings(self):
        read_x = ("x", ("n", 1))
        rows = [
            ("n", 3, ("n", 3)), ("t", "q", ("t", "q")), ("z", None, ("z", None)), ("w", "red", ("w", "red")),
            ("l", [1, 2], ("l", (("n", 1), ("n", 2)))), ("m", [], ("m", ())),
            ("m", [[1], [2]], ("m", (("l", (("n", 1),)), ("l", (("n", 2),))))),
            ("e", {}, ("e", ())), ("d", {"z": 1, "q": None, "c": True}, ("d", (("c", ("o", True)), ("q", ("z", None))))),
            ("b", {"y": "t", "k": 0, "x": 1}, ("b", (read_x, ("y", ("t", "t"))))),
            ("g", {"k": "one", "x": 1}, ("g", "one", ("a", (read_x,)))),
            ("g", {"z": 0, "x": 1, "k": "two"}, ("g", "two", ("b", (read_x,)))),
            ("v", {"x": 1}, ("v", "u", ("u", "a", ("a", (read_x,))))),
            ("v", 1, ("v", "y", ("y", "n", ("n", 1)))),
            ("y", {"k": "one", "x": 1}, ("y", "g", ("g", "one", ("a", (read_x,))))),
            ("y", {"k": "ten", "x": 1}, ("y", "b", ("b", (read_x,)))),
        ]
        for name, document, reading in rows:
            self.assertEqual(kind(name)(document), reading)
            self.assertEqual(kind(name)(document=document), reading)

    def test_a_reading_does_not_change_with_the_document(self):
        document = {"k": "two", "x": 1, "y": "t"}
        told = kind("g")(document)
        document["x"] = 2
        del document["y"]
        self.assertEqual(told, ("g", "two", ("b", (("x", ("n", 1)), ("y", ("t", "t"))))))

    def test_bools_stay_bools(self):
        self.assertIs(kind("o")(True)[1], True)
        self.assertIs(kind("n")(1)[1].__class__, int)

    def test_no_reading(self):
        for name, (_, others) in FITTING.items():
            for document in others:
                with self.assertRaises(NoReading) as caught:
                    kind(name)(document)
                self.assertIs(caught.exception.value, document)

    def test_no_document(self):
        for value in ((), [(1,)], {"x": 1, "Z": 1}, {1: 2}, {"x": 1, "z": [(0,)]}):
            for name in FORMS:
                with self.assertRaises(NoDocument) as caught:
                    kind(name)(value)
                self.assertIs(caught.exception.value, value)

    def test_a_document_that_fits_along_very_many_ways(self):
        # Every level fits both members, and the innermost part neither.
        forms = {"u": ("either", ("p", "q")), "p": ("record", False, (("f", "u", True),)),
                 "q": ("record", True, (("f", "u", True),))}
        document = {}
        for _ in range(80):
            document = {"f": document}
        self.assertNotIn(document, kind("u", forms))

    def test_eithers_of_eithers(self):
        names = "abcdefghijklmno"
        forms = {name: ("either", tuple(names[at + 1:at + 7]) + ("n",)) for at, name in enumerate(names)}
        forms["n"] = ("int", 0, 9)
        reading = kind("a", forms)(5)
        self.assertEqual(reading[:2], ("a", "b"))
        self.assertNotIn(10, kind("a", forms))


def by_the_words(forms, name, document):
    """The first reading as section 6 says it, or None; asked anew for each part."""
    form = forms[name]
    if form[0] == "either":
        for member in form[1]:
            told = by_the_words(forms, member, document)
            if told is not None:
                return (name, member, told)
        return None
    if form[0] == "tagged":
        if type(document) is not dict or type(document.get(form[1])) is not str:
            return None
        inner = dict(form[2]).get(document[form[1]])
        rest = {field: part for field, part in document.items() if field != form[1]}
        told = inner and by_the_words(forms, inner, rest)
        return told and (name, document[form[1]], told)
    if form[0] == "list":
        high = 10 ** 9 if form[3] is None else form[3]
        if type(document) is not list or not form[2] <= len(document) <= high:
            return None
        told = [by_the_words(forms, form[1], part) for part in document]
        return None if None in told else (name, tuple(told))
    if form[0] == "record":
        return record_by_the_words(forms, name, document)
    return (name, document) if plain_by_the_words(form, document) else None


def plain_by_the_words(form, document):
    if form[0] == "int":
        return type(document) is int and form[1] <= document <= form[2]
    if form[0] == "word":
        return type(document) is str and document in form[1]
    return type(document) is {"none": type(None), "bool": bool, "text": str}[form[0]]


def record_by_the_words(forms, name, document):
    _, lets, lines = forms[name]
    if type(document) is not dict:
        return None
    known = {field for field, _, _ in lines}
    if not lets and set(document) - known:
        return None
    if {field for field, _, wanted in lines if wanted} - set(document):
        return None
    told = [(field, by_the_words(forms, inner, document[field])) for field, inner, _ in lines if field in document]
    return None if None in [reading for _, reading in told] else (name, tuple(sorted(told)))


def some_forms(source):
    forms = {"n": ("int", 0, 1), "t": ("word", ("p", "q")), "o": ("bool",), "z": ("none",)}
    inner = ["n", "t", "o", "z", "a", "b", "c", "l", "g", "u", "v"]
    for name in "abc":
        rows = [(field, source.choice(inner), source.random() < 0.5) for field in "xyk" if source.random() < 0.6]
        source.shuffle(rows)
        if name != "c":
            rows = [row for row in rows if row[0] != "k"]
        forms[name] = ("record", source.random() < 0.5, tuple(rows))
    forms["l"] = ("list", source.choice(inner), source.randrange(2), source.choice([1, 2, None]))
    forms["g"] = ("tagged", "k", tuple(source.sample([("p", "a"), ("q", "b"), ("r", "a")], source.randint(1, 3))))
    forms["u"] = ("either", tuple(source.sample(["n", "t", "o", "a", "b", "c", "l", "g"], 3)))
    forms["v"] = ("either", tuple(source.sample(["u", "z", "a", "b", "l"], 3)))
    return forms


def some_document(source, depth):
    pick = source.random()
    if depth == 0 or pick < 0.3:
        return source.choice([None, True, False, 0, 1, 2, "p", "q", "r"])
    if pick < 0.45:
        return [some_document(source, depth - 1) for _ in range(source.randrange(3))]
    fields = source.sample(["x", "y", "k", "e"], source.randrange(4))
    return {field: source.choice(["p", "q"]) if field == "k" and source.random() < 0.7
            else some_document(source, depth - 1) for field in fields}


class TestAgainstTheWords(unittest.TestCase):

    def test_many_books_and_documents(self):
        source = random.Random(4)
        fitting = 0
        for _ in range(150):
            forms = some_forms(source)
            for _ in range(40):
                document = some_document(source, 3)
                self.assertTrue(is_document(document))
                for name in forms:
                    told = by_the_words(forms, name, document)
                    self.assertIs(document in kind(name, forms), told is not None)
                    if told is not None:
                        fitting += 1
                        self.assertEqual(repr(kind(name, forms)(copy.deepcopy(document))), repr(told))
        self.assertGreater(fitting, 5000)


class TestModule(unittest.TestCase):

    def test_the_classes_are_defined_in_the_file(self):
        for name in "Kind Plain Listed Fielded Membered Record Either Tagged".split():
            self.assertEqual(getattr(kinds, name).__module__, "tagless.kinds")


if __name__ == "__main__":
    unittest.main()
