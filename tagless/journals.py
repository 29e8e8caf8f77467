"""Journals: the lines of a shelf, read again."""

from tagless.deeds import books_in, deed_in
from tagless.errors import BadJournal, TaglessError
from tagless.shelf import Shelf

FIRST = "shelf "


def done_on(shelf, word, told):
    """Does a deed, as deed_in tells it, on a shelf; what it returns."""
    if word == "put":
        return shelf.put(told[0], told[1])
    if word == "lay":
        return shelf.lay(told[0], whole=told[1])
    if word == "pass_on":
        return shelf.pass_on(told[0])
    return shelf.take(told[0])


def first_books(lines):
    """The book of the first line of a journal, in a list of one; an empty list if there is none."""
    if not lines or not isinstance(lines[0], str) or not lines[0].startswith(FIRST):
        return []
    return books_in(lines[0][len(FIRST):])


def read_journal(lines):
    """The shelf to which the deeds of a journal lead."""
    if not isinstance(lines, tuple):
        raise BadJournal(0)
    found = first_books(lines)
    if not found:
        raise BadJournal(1)
    shelf = Shelf(found[0])
    for at, line in enumerate(lines[1:]):
        word, told = deed_in(line) if isinstance(line, str) else ("", [])
        if not told:
            raise BadJournal(at + 2)
        try:
            done_on(shelf, word, told)
        except TaglessError:
            raise BadJournal(at + 2) from None
    return shelf
