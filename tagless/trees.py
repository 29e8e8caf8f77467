"""Trees: what the parts of a document fit, and its readings one by one."""

from tagless.documents import copied, inner_parts, parts_of
from tagless.firsts import eithers_in_turn, firsts_of_parts


class Tree:
    """The parts of a document, where the inner parts of each begin, and what each fits."""

    def __init__(self, forms, document):
        # A copy: the readings are still asked for when the document may have been changed.
        self.parts = parts_of(copied(document))
        self.table = forms
        self.starts = starts_of(self.parts)
        self.firsts = firsts_of_parts(forms, self.parts)

    def fits(self, name, at):
        """Whether the part at this place fits the kind."""
        return name in self.firsts[at]


def starts_of(parts):
    """For each of the parts, as parts_of has them, the place of the first of its inner parts."""
    starts = []
    start = 1
    for part in parts:
        starts.append(start)
        start = start + len(inner_parts(part))
    return starts


def line_of(form, word):
    """The line of a tagged kind with this word; None if there is none."""
    for row in form[2]:
        if row[0] == word:
            return row
    return None


def parts_read(tree, name, at):
    """What a reading of the part by the kind, which is no either, is made of: rows (kind, place), in sequence."""
    form = tree.table[name]
    part = tree.parts[at]
    start = tree.starts[at]
    if form[0] == "list":
        return [(form[1], start + many) for many in range(len(part))]
    if form[0] == "tagged":
        return [(line_of(form, part[form[1]])[1], at)]
    if form[0] == "record":
        places = {field: start + many for many, field in enumerate(part)}
        return [(row[1], places[row[0]]) for row in sorted(form[2]) if row[0] in places]
    return []


def fitting_members(tree, name, at):
    """The members of an either that the part fits."""
    return [member for member in tree.table[name][1] if tree.fits(member, at)]


def reading_made(tree, name, at, member, inner):
    """The reading of the part by the kind, from the readings of what it is made of."""
    form = tree.table[name]
    part = tree.parts[at]
    if form[0] == "list":
        return (name, tuple(inner))
    if form[0] == "either":
        return (name, member, inner[0])
    if form[0] == "tagged":
        return (name, part[form[1]], inner[0])
    if form[0] == "record":
        fields = [row[0] for row in sorted(form[2]) if row[0] in part]
        return (name, tuple(zip(fields, inner)))
    return (name, part)


def reading_by(tree, kind, turns):
    """The reading that takes at its unions the members of these turns, then the first ones, and all of its turns.

    Turns are rows (number of the member among those that fit, how many fit), of the unions in
    the sequence in which readings are compared.
    """
    nodes = []
    taken = []
    waiting = [(kind, 0)]
    while waiting:
        name, at = waiting.pop()
        member = None
        if tree.table[name][0] == "either":
            members = fitting_members(tree, name, at)
            number = turns[len(taken)][0] if len(taken) < len(turns) else 0
            taken.append((number, len(members)))
            member = members[number]
            below = [(member, at)]
        else:
            below = parts_read(tree, name, at)
        nodes.append((name, at, member, len(below)))
        waiting.extend(below[::-1])
    made = []
    # What a node is made of stands behind it, so from the end it is made ahead of it.
    for name, at, member, many in nodes[::-1]:
        inner = made[len(made) - many:]
        del made[len(made) - many:]
        made.append(reading_made(tree, name, at, member, inner[::-1]))
    return made[0], taken


def next_turns(turns):
    """The turns of the next reading, up to the union at which it parts; empty if there is no next one."""
    left = list(turns)
    while left and left[-1][0] + 1 == left[-1][1]:
        left.pop()
    if left:
        number, many = left.pop()
        left.append((number + 1, many))
    return left


def product_of(numbers):
    """The product of all numbers, 1 of none."""
    told = 1
    for number in numbers:
        told = told * number
    return told


def readings_counted(tree):
    """For each part a dict from each kind that it fits to how many readings it has by it."""
    eithers = eithers_in_turn(tree.table)
    counts = [{} for _ in tree.parts]
    for at in reversed(range(len(tree.parts))):
        counts[at] = part_counted(tree, eithers, at, counts)
    return counts


def part_counted(tree, eithers, at, counts):
    """How many readings a part has by each kind that it fits, from those of its inner parts."""
    told = {}
    for name in tree.table:
        if tree.fits(name, at) and tree.table[name][0] != "either":
            kind = name
            if tree.table[name][0] == "tagged":
                # The part has a tag more than the record of the line, which need not fit it as a whole.
                kind = parts_read(tree, name, at)[0][0]
            told[name] = product_of([counts[place][inner] for inner, place in parts_read(tree, kind, at)])
    for name in eithers:
        if tree.fits(name, at):
            told[name] = sum([told[member] for member in fitting_members(tree, name, at)])
    return told
