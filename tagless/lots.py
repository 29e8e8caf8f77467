"""Lots: which kinds a document fits, and all lots that documents of a book have."""

from tagless.asked import check_document, check_kind, members_asked
from tagless.books import forms_of
from tagless.documents import is_document
from tagless.errors import TooMany
from tagless.firsts import first_readings
from tagless.groups import all_groups


def lot_of(forms, document):
    """The lot of a document."""
    return tuple(sorted(first_readings(forms, document)))


def lot(book, document):
    """The ascending tuple of the names of all kinds that a document fits."""
    check_document(document)
    return lot_of(forms_of(book), document)


def nodes_by_lot(groups):
    """A dict from each lot that documents have to the node of its least documents, ascending."""
    best = groups.best()
    rows = sorted([(tuple([row[0] for row in mark]), best[mark]) for mark in best])
    return {told: node for told, node in rows}


def told_lots(groups):
    """What lots tells, from the groups of a book."""
    nodes = nodes_by_lot(groups)
    return tuple([(told, groups.told(nodes[told])) for told in nodes])


def lots(book):
    """The ascending tuple of (lot, document), a least one, for all lots that documents have."""
    return told_lots(all_groups(forms_of(book), False))


def are_lots(forms, nodes, value):
    """Whether any value is a tuple of all these lots, ascending, each with any document that has it."""
    if not isinstance(value, tuple) or len(value) != len(nodes):
        return False
    for row, told in zip(value, nodes):
        if not isinstance(row, tuple) or len(row) != 2 or not isinstance(row[0], tuple) or row[0] != told:
            return False
        if not is_document(row[1]) or lot_of(forms, row[1]) != told:
            return False
    return True


def nodes_or_none(forms):
    """What nodes_by_lot tells of a book; None if it has too many lots."""
    try:
        return nodes_by_lot(all_groups(forms, False))
    except TooMany:
        return None


def shows_lots(book, value):
    """Whether any value is right as an answer of lots; its documents may be of any size."""
    forms = forms_of(book)
    nodes = nodes_or_none(forms)
    return nodes is not None and are_lots(forms, nodes, value)


def within(book, one, other):
    """("within", lots) if each document that fits one fits other, otherwise ("not", document), a least one."""
    check_kind(book, one)
    check_kind(book, other)
    groups = all_groups(forms_of(book), False)
    nodes = nodes_by_lot(groups)
    outside = [nodes[told] for told in nodes if one in told and other not in told]
    if not outside:
        return ("within", told_lots(groups))
    return ("not", groups.told(min(outside, key=lambda node: groups.sizes[node])))


def shows_within(book, one, other, value):
    """Whether any value is right as an answer of within; its documents may be of any size."""
    check_kind(book, one)
    check_kind(book, other)
    forms = forms_of(book)
    nodes = nodes_or_none(forms)
    if nodes is None or not isinstance(value, tuple) or len(value) != 2:
        return False
    if value[0] == "not" and is_document(value[1]):
        told = lot_of(forms, value[1])
        return one in told and other not in told
    if value[0] != "within" or not are_lots(forms, nodes, value[1]):
        return False
    return all([other in told for told in nodes if one in told])


def unused(book, kind):
    """The members of an either, in sequence, that no first reading takes."""
    members = members_asked(book, kind)
    taken = {}
    for told in nodes_by_lot(all_groups(forms_of(book), False)):
        for member in [member for member in members if member in told][:1]:
            taken[member] = True
    return tuple([member for member in members if member not in taken])
