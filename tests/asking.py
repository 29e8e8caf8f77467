"""What the tests of the functions have in common: errors with their very values, and wrong arguments."""

import copy
import unittest

import plainly
from tagless.books import Book

TEXT = ("int n 0 9\ntext t\nrecord a\n  x n\nrecord b open\n  x n\n  y t ?\neither u a b\n"
        "tagged g k\n  one a\n  two b")

WIDE = "int n 0 9\nrecord a open\n  x n\nrecord c\n  x n\n  y n\neither u a c"

NO_KINDS = [None, True, 0, "", "z", "N", "u\n", "toolongname", (), ("u",), [], ["u"], {}, {"u": 1}, [[{}]]]

NO_DOCUMENTS = [(), (1,), [(1,)], {"X": 1}, {1: 1}, {"x": 1, "": 0}, {"x": 1, "z": (0,)}, {"x": [{"toolongname": 1}]},
                {"x\n": 0}, [[(None,)]]]

# What is no answer of any function; of a function that tells None it is left out.
NO_ANSWERS = [None, True, False, 0, 1, "", "meet", "one", (), ("meet",), ("apart",), ["apart", ()], ("apart", []),
              ("one", ()), ("one", (), (), ()), ("two",), ("safe",), ("ring", ()), ("ring", []), ("within",), ("steady",),
              ("not",), ("turns",), ("back", ()), ("lost", ()), ("lost", None), ("meet", (1,)), ("two", {1: 2}), [], {},
              {"meet": None}, ("", ()), (None, None), (["meet"], None), ("not", (1,)), ("turns", [(1,)]), ("within", None),
              ("steady", ((), ())), ("apart", ((),)), ("apart", (None,)), ("apart", (((), ()),)),
              ("safe", (), 0, (), ()), ("safe", (0, 1), 1, ((0, 1),), ()), ("apart", ((("x",), ([],)),)), ("ring", ((), ()))]


def deep(levels, inner=None):
    """A list within a list, and so on."""
    for _ in range(levels):
        inner = [inner]
    return inner


def deeper(levels):
    """A tuple within a tuple, and so on."""
    inner = ()
    for _ in range(levels):
        inner = (inner,)
    return inner


class Asking(unittest.TestCase):

    def refused(self, error, value, function, /, *arguments, **named):
        """The call raises just this error with this very value, and changes none of its arguments."""
        handed = arguments[1:] + tuple(named[name] for name in sorted(named))
        handed = [value for value in handed if not isinstance(value, Book)]
        kept = copy.deepcopy(handed)
        with self.assertRaises(error) as caught:
            list(function(*arguments, **named))
        self.assertIs(type(caught.exception), error)
        told = caught.exception.value
        self.assertTrue(plainly.same(told, value), (told, value))
        self.assertEqual(repr(handed), repr(kept))

    def same(self, one, other, more=None):
        self.assertTrue(plainly.same(one, other), (one, other, more))


def book_of(forms):
    return Book.of(plainly.rows(forms))
