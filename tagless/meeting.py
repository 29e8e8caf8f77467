"""Meeting: whether two sides have a document in common."""

from tagless.books import forms_of
from tagless.documents import is_document
from tagless.errors import BadSide
from tagless.least import least_made
from tagless.pairs import closed_with, is_closed
from tagless.recipes import least_with
from tagless.sides import is_of_side, is_side, pair_of


def tables_asked(book, one, other):
    """The tables of a book that is asked for these sides."""
    tables = (forms_of(book),)
    for side in (one, other):
        if not is_side(tables, side):
            raise BadSide(side)
    return tables


def meet(book, one, other):
    """("meet", document), a least one of both sides, or ("apart", pairs), closed."""
    tables = tables_asked(book, one, other)
    pair = pair_of(one, other)
    sizes, best = least_with(tables, [pair])
    if pair in sizes:
        return ("meet", least_made(sizes, best, pair))
    return ("apart", closed_with(tables, sizes, [pair]))


def shows_meet(book, one, other, value):
    """Whether any value is right as an answer of meet; its document may be of any size."""
    tables = tables_asked(book, one, other)
    if not isinstance(value, tuple) or len(value) != 2:
        return False
    if value[0] == "meet":
        document = value[1]
        return is_document(document) and all([is_of_side(tables, side, document) for side in (one, other)])
    return value[0] == "apart" and is_closed(tables, value[1]) and pair_of(one, other) in value[1]
