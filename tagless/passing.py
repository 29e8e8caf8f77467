"""Passing on: documents that are read and written again."""

from tagless.asked import check_document, forms_asked, forms_with
from tagless.books import forms_of
from tagless.documents import copied, is_document, same
from tagless.errors import NoReading, TooMany
from tagless.firsts import first_readings
from tagless.groups import all_groups
from tagless.writing import document_of, same_readings


def passed_by(forms, kind, document):
    """What a document is passed on as by a kind."""
    firsts = first_readings(forms, document)
    if kind not in firsts:
        raise NoReading(document)
    return document_of(forms, firsts[kind])


def passed(book, kind, document):
    """What is written for the first reading of a document."""
    return passed_by(forms_asked(book, kind, document), kind, document)


def passes(book, kind, document):
    """A generator of the document, what it is passed on as, and so on, until it stays the same."""
    forms = forms_asked(book, kind, document)
    held = copied(document)
    further = passed_by(forms, kind, document)
    yield copied(held)
    while not same(held, further):
        held = further
        yield copied(held)
        further = passed_by(forms, kind, held)


def way_of(forms, document):
    """The way of a document."""
    firsts = first_readings(forms, document)
    rows = []
    for name in sorted(firsts):
        again = first_readings(forms, document_of(forms, firsts[name]))
        rows.append((name, tuple(sorted(again)), same_readings(firsts[name], again[name])))
    return tuple(rows)


def way(book, document):
    """The ascending tuple of (name, lot, stands) for each kind that a document fits."""
    check_document(document)
    return way_of(forms_of(book), document)


def told_ways(groups):
    """What ways tells, from the groups of a book."""
    best = groups.best()
    return tuple([(mark, groups.told(best[mark])) for mark in sorted(best)])


def ways(book):
    """The ascending tuple of (way, document), a least one, for all ways that documents have."""
    return told_ways(all_groups(forms_of(book), True))


def is_way(value):
    """Whether any value is a tuple of rows of three, the last of which is a bool: True is not 1."""
    if not isinstance(value, tuple):
        return False
    return all([isinstance(row, tuple) and len(row) == 3 and isinstance(row[2], bool) for row in value])


def are_ways(forms, marks, value):
    """Whether any value is a tuple of all these ways, ascending, each with any document that has it."""
    if not isinstance(value, tuple) or len(value) != len(marks):
        return False
    for row, mark in zip(value, marks):
        if not isinstance(row, tuple) or len(row) != 2 or not is_way(row[0]) or row[0] != mark:
            return False
        if not is_document(row[1]) or way_of(forms, row[1]) != mark:
            return False
    return True


def marks_or_none(forms):
    """The ascending list of all ways that documents have; None if there are too many."""
    try:
        return sorted(all_groups(forms, True).best())
    except TooMany:
        return None


def shows_ways(book, value):
    """Whether any value is right as an answer of ways; its documents may be of any size."""
    forms = forms_of(book)
    marks = marks_or_none(forms)
    return marks is not None and are_ways(forms, marks, value)


def turns_by(mark, kind):
    """Whether a document with this way fits the kind and does not stand."""
    return any([name == kind and not stands for name, _, stands in mark])


def steady(book, kind):
    """("steady", ways) if each document that fits the kind stands so, otherwise ("turns", document), a least one."""
    groups = all_groups(forms_with(book, kind), True)
    best = groups.best()
    turning = [best[mark] for mark in best if turns_by(mark, kind)]
    if not turning:
        return ("steady", told_ways(groups))
    return ("turns", groups.told(min(turning, key=lambda node: groups.sizes[node])))


def shows_steady(book, kind, value):
    """Whether any value is right as an answer of steady; its documents may be of any size."""
    forms = forms_with(book, kind)
    marks = marks_or_none(forms)
    if marks is None or not isinstance(value, tuple) or len(value) != 2:
        return False
    if value[0] == "turns" and is_document(value[1]):
        return turns_by(way_of(forms, value[1]), kind)
    if value[0] != "steady" or not are_ways(forms, marks, value[1]):
        return False
    return not any([turns_by(mark, kind) for mark in marks])
