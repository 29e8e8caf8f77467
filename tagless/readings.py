"""Readings: how documents are read by kinds, and what is written for a reading."""

from tagless.asked import forms_asked
from tagless.books import forms_of
from tagless.errors import BadReading, NoReading
from tagless.faults import any_fault, is_fault
from tagless.firsts import closed_forms, first_readings
from tagless.trees import Tree, next_turns, reading_by, readings_counted
from tagless.writing import document_of, is_any_reading


def fits(book, kind, document):
    """Whether a document fits the kind."""
    return kind in first_readings(forms_asked(book, kind, document), document)


def decoded(book, kind, document):
    """The first reading of a document by the kind."""
    firsts = first_readings(forms_asked(book, kind, document), document)
    if kind not in firsts:
        raise NoReading(document)
    return firsts[kind]


def readings(book, kind, document):
    """A generator of all readings of a document by the kind, in their sequence."""
    tree = Tree(forms_asked(book, kind, document), document)
    going = tree.fits(kind, 0)
    turns = []
    while going:
        reading, taken = reading_by(tree, kind, turns)
        yield reading
        turns = next_turns(taken)
        going = len(turns) > 0


def how_many(book, kind, document):
    """How many readings a document has by the kind."""
    tree = Tree(forms_asked(book, kind, document), document)
    return readings_counted(tree)[0].get(kind, 0)


def why(book, kind, document):
    """A fault for which a document does not fit the kind; None if it fits."""
    tree = Tree(forms_asked(book, kind, document), document)
    return None if tree.fits(kind, 0) else any_fault(tree, kind)


def shows_why(book, kind, document, value):
    """Whether any value tells rightly why a document does not fit the kind, or that it fits."""
    tree = Tree(forms_asked(book, kind, document), document)
    if tree.fits(kind, 0):
        return value is None
    return is_fault(tree, kind, value)


def is_reading(book, value):
    """Whether any value is a reading of some document by some kind."""
    return is_any_reading(forms_of(book), value)


def written(book, reading):
    """The document, without extras, of which this is a reading."""
    forms = forms_of(book)
    if not is_any_reading(forms, reading):
        raise BadReading(reading)
    return document_of(forms, reading)


def is_written(book, kind, document):
    """Whether a document is a written form of the kind."""
    return kind in first_readings(closed_forms(forms_asked(book, kind, document)), document)
