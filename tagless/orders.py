"""Sequences in which the members of an either may be tried, so that nothing written is lost."""

from tagless.asked import members_asked
from tagless.books import Book, forms_of
from tagless.documents import is_document, sort_of
from tagless.errors import BadOrder, NoOrder
from tagless.least import least_made
from tagless.pairs import closed_with, is_closed
from tagless.recipes import least_with
from tagless.sides import is_of_side, pair_of, side_of


def numbers_apart(many):
    """The rows (j, i) of each two unlike numbers below many, ascending."""
    return [(j, i) for j in range(many) for i in range(many) if i != j]


def row_pair(members, j, i):
    """The pair that meets if member j must stand ahead of member i."""
    return pair_of(side_of(members[j], "written"), side_of(members[i], "any"))


def are_ahead(musts, left, i):
    """Whether one of the numbers that are left must stand ahead of i."""
    return any([(j, i) in musts for j in left])


def first_sequence(many, musts):
    """The first safe sequence of numbers; if there is none, as much of it as can be told."""
    told = []
    left = list(range(many))
    free = left
    while free:
        free = [i for i in left if not are_ahead(musts, left, i)]
        told.extend(free[:1])
        left = [i for i in left if i not in told]
    return told


def sequences_counted(many, musts):
    """How many safe sequences there are."""
    # By the set of the numbers that stand at the end: so many sequences of what is ahead of them.
    counts = {tuple(range(many)): 1}
    for _ in range(many):
        further = {}
        for left, count in counts.items():
            for i in left:
                if not are_ahead(musts, left, i):
                    rest = tuple([j for j in left if j != i])
                    further[rest] = further.get(rest, 0) + count
        counts = further
    return counts.get((), 0)


def ring_of(many, musts):
    """Rows (j, i) of musts that lead around, where there is no safe sequence."""
    told = first_sequence(many, musts)
    left = [i for i in range(many) if i not in told]
    # One that must stand ahead of each one that is left is left, too; so this way comes back to itself.
    way = [left[0]]
    while way[-1] not in way[:-1]:
        way.append([j for j in left if (j, way[-1]) in musts][0])
    ring = way[way.index(way[-1]):]
    return [(ring[at + 1], ring[at]) for at in reversed(range(len(ring) - 1))]


def orders(book, kind):
    """("safe", numbers, many, musts, pairs) of the first safe sequence, or ("ring", rows) if there is none."""
    members = members_asked(book, kind)
    tables = (forms_of(book),)
    pairs = {row: row_pair(members, row[0], row[1]) for row in numbers_apart(len(members))}
    sizes, best = least_with(tables, [pairs[row] for row in pairs])
    musts = {row: least_made(sizes, best, pairs[row]) for row in pairs if pairs[row] in sizes}
    numbers = first_sequence(len(members), musts)
    if len(numbers) < len(members):
        return ("ring", tuple([(j, i, musts[(j, i)]) for j, i in ring_of(len(members), musts)]))
    rows = tuple([(j, i, musts[(j, i)]) for j, i in musts])
    closed = closed_with(tables, sizes, [pairs[row] for row in pairs if row not in musts])
    return ("safe", tuple(numbers), sequences_counted(len(members), musts), rows, closed)


def is_must(tables, members, value):
    """Whether any value is a row (j, i, document) that shows that member j must stand ahead of member i."""
    if not isinstance(value, tuple) or len(value) != 3 or not all([sort_of(place) == "int" for place in value[:2]]):
        return False
    j, i, document = value
    if i == j or not 0 <= j < len(members) or not 0 <= i < len(members) or not is_document(document):
        return False
    return all([is_of_side(tables, side, document) for side in row_pair(members, j, i)])


def are_musts(tables, members, value):
    """Whether any value is a tuple of rows (j, i, document), each of which shows what it tells."""
    return isinstance(value, tuple) and all([is_must(tables, members, row) for row in value])


def shows_safe(tables, members, value):
    """Whether the four values behind "safe" are right."""
    numbers, many, rows, pairs = value
    if not are_musts(tables, members, rows) or not is_closed(tables, pairs):
        return False
    musts = [row[:2] for row in rows]
    if musts != sorted(set(musts)):
        return False
    others = [row for row in numbers_apart(len(members)) if row not in musts]
    if not all([row_pair(members, j, i) in pairs for j, i in others]):
        return False
    if not are_numbers(numbers, len(members)) or sort_of(many) != "int":
        return False
    return list(numbers) == first_sequence(len(members), musts) and many == sequences_counted(len(members), musts)


def shows_ring(tables, members, rows):
    """Whether any value is rows that lead around."""
    if not are_musts(tables, members, rows) or len(rows) < 2:
        return False
    ahead = [row[0] for row in rows]
    return len(set(ahead)) == len(ahead) and [row[1] for row in rows] == ahead[1:] + ahead[:1]


def shows_orders(book, kind, value):
    """Whether any value is right as an answer of orders; its documents may be of any size."""
    members = members_asked(book, kind)
    tables = (forms_of(book),)
    if not isinstance(value, tuple):
        return False
    if len(value) == 5 and value[0] == "safe":
        return shows_safe(tables, members, value[1:])
    return len(value) == 2 and value[0] == "ring" and shows_ring(tables, members, value[1])


def are_numbers(value, many):
    """Whether any value is a tuple of all numbers below many, in some sequence."""
    if not isinstance(value, tuple) or not all([sort_of(place) == "int" for place in value]):
        return False
    return sorted(value) == list(range(many))


def book_with(book, sequences):
    """The book with the members of these eithers in these sequences, by their names."""
    rows = []
    for name, form in forms_of(book).items():
        if name in sequences:
            form = ("either", tuple([form[1][number] for number in sequences[name]]))
        rows.append((name, form))
    return Book.of(tuple(rows))


def in_order(book, kind, numbers):
    """The book with the members of this either in the sequence of these numbers."""
    members = members_asked(book, kind)
    if not are_numbers(numbers, len(members)):
        raise BadOrder(numbers)
    return book_with(book, {kind: numbers})


def safe_numbers(forms, name):
    """The first safe sequence of an either, as numbers; NoOrder if there is none."""
    members = forms[name][1]
    pairs = {row: row_pair(members, row[0], row[1]) for row in numbers_apart(len(members))}
    sizes, _ = least_with((forms,), [pairs[row] for row in pairs])
    numbers = first_sequence(len(members), [row for row in pairs if pairs[row] in sizes])
    if len(numbers) < len(members):
        raise NoOrder(name)
    return numbers


def settled(book):
    """The book in which each either has its first safe sequence."""
    forms = forms_of(book)
    return book_with(book, {name: safe_numbers(forms, name) for name in forms if forms[name][0] == "either"})
