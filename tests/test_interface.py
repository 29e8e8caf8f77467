"""The interface: each name in its file, with the arguments of the sections, by position and by name."""

import copy
import importlib
import inspect
import unittest

import plainly
from asking import TEXT, WIDE, Asking
from tagless.books import Book
from tagless.desk import Desk
from tagless.drafts import Draft
from tagless.lines import Line
from tagless.shelf import Shelf

FUNCTIONS = {
    "documents": ["is_document value", "same one other", "size document"],
    "readings": ["fits book kind document", "decoded book kind document", "readings book kind document", "how_many book kind document",
                 "why book kind document", "shows_why book kind document value", "is_reading book value", "written book reading",
                 "is_written book kind document"],
    "meeting": ["meet book one other", "shows_meet book one other value"],
    "single": ["single book kind", "shows_single book kind value"],
    "back": ["reads_back book kind", "shows_back book kind value"],
    "orders": ["orders book kind", "shows_orders book kind value", "in_order book kind numbers", "settled book"],
    "lots": ["lot book document", "lots book", "shows_lots book value", "within book one other", "shows_within book one other value",
             "unused book kind"],
    "passing": ["passed book kind document", "passes book kind document", "way book document", "ways book", "shows_ways book value",
                "steady book kind", "shows_steady book kind value"],
    "growth": ["keeps elder newer", "shows_keeps elder newer value", "grown book kind member place", "places book kind member"],
    "repairs": ["changed book changes", "repaired book kind offers *wish", "shows_repaired book kind offers value *wish"],
    "texts": ["show_document document", "read_document text"],
    "journals": ["read_journal lines"],
}

CLASSES = {
    "books": {"Book": ["__init__ text", "of forms", "__getitem__", "__contains__", "__len__", "__eq__", "__or__"]},
    "kinds": {"Kind": ["__call__ document", "__contains__", "__eq__"], "Plain": [], "Listed": [], "Fielded": [], "Membered": [],
              "Record": [], "Either": [], "Tagged": []},
    "lines": {"Line": ["__init__ book kind", "__rshift__", "__rrshift__", "__call__ document", "__len__", "__eq__", "lost document"]},
    "drafts": {"Draft": ["__init__ book kind", "__setitem__", "__getitem__", "__contains__", "__len__", "__ior__", "__eq__", "take field",
                         "is_part_of other", "roads", "sure", "wants road"]},
    "shelf": {"Shelf": ["__init__ book", "put kind document", "lay newer *whole", "pass_on number", "take number", "document_at number",
                        "kind_at number", "reading_at number", "edition_at number", "__contains__", "__len__", "__eq__", "undo", "redo",
                        "trial", "keep", "tried look *keep", "copy"]},
    "desk": {"Desk": ["__init__ lines", "say line"]},
}

PROPERTIES = {
    "books.Book": ["text", "names"], "kinds.Kind": ["name", "book", "form"], "kinds.Listed": ["item"], "kinds.Fielded": ["fields"],
    "kinds.Membered": ["members"], "lines.Line": ["stations"], "drafts.Draft": ["book", "known", "document", "kind"],
    "shelf.Shelf": ["numbers", "editions", "deeds", "journal"], "desk.Desk": ["shelf"],
}

BELOW = {"Plain": ["Kind"], "Listed": ["Kind"], "Fielded": ["Kind"], "Membered": ["Kind"], "Record": ["Fielded"], "Either": ["Membered"],
         "Tagged": ["Fielded", "Membered"]}

DEFAULTS = {"wish": "back", "whole": False, "keep": False}


def parts_of(row):
    """The name, the parameters, and those behind a `*`."""
    words = row.split(" ")
    return words[0], [word for word in words[1:] if not word.startswith("*")], [word[1:] for word in words[1:] if word.startswith("*")]


class TestInterface(Asking):

    def parameters(self, function, skipped):
        told = list(inspect.signature(function).parameters.values())[skipped:]
        plain = [one.name for one in told if one.kind == inspect.Parameter.POSITIONAL_OR_KEYWORD and one.default is inspect.Parameter.empty]
        named = [one.name for one in told if one.kind == inspect.Parameter.KEYWORD_ONLY]
        self.assertEqual(len(plain) + len(named), len(told), function)
        for one in told:
            if one.kind == inspect.Parameter.KEYWORD_ONLY:
                self.assertIs(type(one.default), type(DEFAULTS[one.name]))
                self.assertEqual(one.default, DEFAULTS[one.name])
        return plain, named

    def test_functions(self):
        for module, rows in FUNCTIONS.items():
            there = importlib.import_module("tagless." + module)
            for row in rows:
                name, plain, named = parts_of(row)
                function = getattr(there, name)
                self.assertEqual(function.__module__, "tagless." + module)
                self.assertTrue(inspect.isfunction(function))
                self.assertEqual(self.parameters(function, 0), (plain, named), name)

    def test_classes(self):
        for module, classes in CLASSES.items():
            there = importlib.import_module("tagless." + module)
            for name, rows in classes.items():
                one = getattr(there, name)
                self.assertEqual(one.__module__, "tagless." + module)
                for row in rows:
                    method, plain, named = parts_of(row)
                    self.assertIn(method, vars(one), name)
                    if method == "of":
                        self.assertEqual(self.parameters(getattr(one, method), 0), (plain, named))
                    elif not method.startswith("__") or plain:
                        self.assertEqual(self.parameters(vars(one)[method], 1), (plain, named), method)
                for property_name in PROPERTIES.get(module + "." + name, []):
                    self.assertIsInstance(vars(one)[property_name], property)
                if name in BELOW:
                    self.assertEqual([base.__name__ for base in one.__bases__], BELOW[name])

    def test_methods_return_nothing_but_what_is_told(self):
        book = Book(TEXT)
        draft, shelf = Draft(book, "u"), Shelf(book)
        draft["x"] = 1
        self.assertIsNone(draft.take("x"))
        shelf.put("n", 1)
        for told in (shelf.take(0), shelf.undo(), shelf.redo()):
            self.assertIsNone(told)
        with shelf.trial() as held:
            self.assertIsNone(held.keep())

    def test_properties_are_only_read(self):
        book = Book(TEXT)
        for one, name in ((Draft(book, "u"), "document"), (Draft(book, "u"), "known"), (Shelf(book), "deeds"), (Shelf(book), "numbers"),
                          (Line(book, "u"), "stations"), (Desk(("shelf |none n",)), "shelf"), (book, "text"), (book["u"], "name")):
            with self.assertRaises(AttributeError):
                setattr(one, name, None)

    def test_calls_change_nothing_and_are_equal_when_made_again(self):
        book, wide = Book(TEXT), Book(WIDE)
        document = {"x": 1, "z": [{"q": 1}]}
        reading = ("u", "b", ("b", (("x", ("n", 1)),)))
        side, other = (0, "a", "any", ""), (0, "b", "written", "")
        values = {"book": book, "elder": wide, "newer": book, "kind": "u", "document": document, "value": ("two", {"x": 1}), "reading": reading,
                  "numbers": (1, 0), "member": "t", "place": 1, "changes": (("ahead", "u", "b"),), "offers": ((("close", "b"), 1),),
                  "text": '{x: [1, "a"]}', "lines": ("shelf |none n", "put n -")}
        for module, rows in FUNCTIONS.items():
            for row in rows:
                name, plain, _ = parts_of(row)
                function = getattr(importlib.import_module("tagless." + module), name)
                named = {word: values.get(word) for word in plain}
                if "one" in named:
                    named["one"], named["other"] = {"meeting": (side, other), "documents": (document, {"x": 1})}.get(module, ("a", "u"))
                if name == "settled":
                    named["book"] = wide
                kept = copy.deepcopy({word: value for word, value in named.items() if not isinstance(value, Book)})
                told = function(**named)
                again = function(*[named[word] for word in plain])
                if inspect.isgenerator(told):
                    told, again = list(told), list(again)
                if isinstance(told, (Book, Shelf)):
                    self.assertTrue(told == again)
                else:
                    self.same(told, again)
                for word, value in kept.items():
                    self.same(named[word], value, (name, word))


if __name__ == "__main__":
    unittest.main()
