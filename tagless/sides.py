"""Sides: documents that fit a kind, or its written forms, or those with one tag alone.

Tables is a tuple of dicts from the names of the kinds of a book to their forms; the number of
a side is that of its book among them.
"""

from tagless.documents import sort_of
from tagless.firsts import closed_forms, first_readings
from tagless.trees import line_of

ALL = (0, "", "any", "")


def side_of(name, how):
    """The side of all documents that fit this kind of the first book, or of its written forms."""
    return (0, name, how, "")


def pair_of(one, other):
    """The pair of two sides, the lesser one first."""
    return (one, other) if one <= other else (other, one)


def is_shaped(value):
    """Whether any value is a tuple of a number and three strings."""
    if not isinstance(value, tuple) or len(value) != 4 or sort_of(value[0]) != "int":
        return False
    return all([isinstance(word, str) for word in value[1:]])


def is_side(tables, value):
    """Whether any value is a side."""
    if not is_shaped(value):
        return False
    number, name, how, word = value
    if name == "":
        return value == ALL
    if not 0 <= number < len(tables) or name not in tables[number] or how not in ("any", "written"):
        return False
    form = tables[number][name]
    return word == "" or form[0] == "tagged" and line_of(form, word) is not None


def form_of_side(tables, side):
    """The form of the kind of a side that has a name."""
    return tables[side[0]][side[1]]


def sort_of_side(tables, side):
    """The word for what a side is: all, union, list, record, or that of a plain kind."""
    if side == ALL:
        return "all"
    sort = form_of_side(tables, side)[0]
    if sort == "either" or sort == "tagged" and side[3] == "":
        return "union"
    return "record" if sort == "tagged" else sort


def parts_of_union(tables, side):
    """The sides of the members of an either, or of the lines of a tagged kind."""
    number, name, how, _ = side
    form = form_of_side(tables, side)
    if form[0] == "either":
        return [(number, member, how, "") for member in form[1]]
    return [(number, name, how, row[0]) for row in form[2]]


def list_of_side(tables, side):
    """Of a side of lists the side of its item, and its least and greatest length; of all documents, too."""
    if side == ALL:
        return (ALL, 0, None)
    number, _, how, _ = side
    _, item, low, high = form_of_side(tables, side)
    return ((number, item, how, ""), low, high)


class Fields:
    """What a side of records asks of their fields."""

    def __init__(self, lines, lets, tag, word):
        self.lines = lines
        self.lets = lets
        self.tag = tag
        self.word = word


def fields_of_side(tables, side):
    """The Fields of a side of records: lines is a dict from a field to (side, wanted); of all documents, too."""
    if side == ALL:
        return Fields({}, True, "", "")
    number, _, how, word = side
    form = form_of_side(tables, side)
    tag = ""
    if form[0] == "tagged":
        tag = form[1]
        form = tables[number][line_of(form, word)[1]]
    lines = {field: ((number, kind, how, ""), wanted) for field, kind, wanted in form[2]}
    return Fields(lines, form[1] and how == "any", tag, word)


def is_of_side(tables, side, document):
    """Whether a document is one of a side."""
    if side == ALL:
        return True
    number, name, how, word = side
    forms = tables[number] if how == "any" else closed_forms(tables[number])
    if name not in first_readings(forms, document):
        return False
    return word == "" or document[forms[name][1]] == word


def word_fits(tables, side, word):
    """Whether a word is one of a side that has no word of its own."""
    return side[1] in first_readings(tables[side[0]], word)
