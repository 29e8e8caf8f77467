"""Blocks: what lists and records fit, as numbers that are joined by `&` part by part.

Each list kind, or each Row of a plan, has a block of bits in a number: the first bit tells
whether all parts so far are right for it, the second one whether each of them stands, and the
further ones, which are all 0 if passing on is not asked for, for which list kinds, or Rows, what
it is passed on as is right so far. The block is 0 if a part is not right for it.
"""

from tagless.plans import passed_lot, whole_mark

RIGHT = 1

STANDS = 2

PASSED = 2


def told_by(mark):
    """A dict from the kinds of a mark to (lot, stands)."""
    return {name: (lot, stands) for name, lot, stands in mark}


def joined(plan, pieces):
    """The number with these blocks, of which there is one for each list kind, or for each Row."""
    width = PASSED + len(pieces) if plan.passing else PASSED
    whole = 0
    for at, piece in enumerate(pieces):
        whole = whole | (piece << (at * width))
    return whole


def pieces_of(plan, whole, many):
    """The blocks in a number that has so many of them."""
    width = PASSED + many if plan.passing else PASSED
    return [(whole >> (at * width)) & ((1 << width) - 1) for at in range(many)]


def bits_of(plan, truths):
    """The bits behind the first two of a block, one for each of these."""
    whole = 0
    for at, truth in enumerate(truths):
        if truth and plan.passing:
            whole = whole | (1 << (PASSED + at))
    return whole


def block(stands, bits):
    """The block of a list kind, or Row, for which a part is right."""
    return RIGHT + STANDS + bits if stands else RIGHT + bits


def list_number(plan, mark):
    """The number of a member of a list, by its mark."""
    told = told_by(mark)
    pieces = []
    for name in plan.listed:
        item = plan.table[name][1]
        if item in told:
            lot, stands = told[item]
            pieces.append(block(stands, bits_of(plan, [plan.table[other][1] in lot for other in plan.listed])))
        else:
            pieces.append(0)
    return joined(plan, pieces)


def length_number(plan, truths):
    """The number in which all is right for just those list kinds for which this is true."""
    bits = bits_of(plan, truths)
    return joined(plan, [block(True, bits) if truth else 0 for truth in truths])


def room_number(plan, many):
    """The number in which all is right for the list kinds that have lists of this length or longer."""
    highs = [plan.table[name][3] for name in plan.listed]
    return length_number(plan, [high is None or many <= high for high in highs])


def list_mark(plan, whole, many):
    """The mark of a list of this length, from what its members joined to."""
    truths = []
    for name in plan.listed:
        _, _, low, high = plan.table[name]
        truths.append(low <= many and (high is None or many <= high))
    told = {}
    for name, piece in zip(plan.listed, pieces_of(plan, whole & length_number(plan, truths), len(plan.listed))):
        if piece != 0:
            told[name] = read_piece(plan, piece, plan.listed)
    return whole_mark(plan, told)


def read_piece(plan, piece, names):
    """What a block tells: the lot of what is passed on, and whether all stands."""
    passed = [name for at, name in enumerate(names) if (piece >> (PASSED + at)) & 1 == 1]
    return passed_lot(plan, passed), (piece & STANDS) != 0


def rows_met(plan, field, lot, sign):
    """The bits of the Rows for which what is passed on in a field is right."""
    if not plan.passing:
        return 0
    return bits_of(plan, [row.is_met(field, lot, sign) for row in plan.rows])


def field_number(plan, field, mark, sign):
    """The number of the document in a field, by its mark and sign; None and () if the field is not there."""
    told = None if mark is None else told_by(mark)
    left_out = rows_met(plan, field, None, ())
    kept = left_out if told is None else rows_met(plan, field, told, sign)
    pieces = []
    for row in plan.rows:
        if not row.is_met(field, told, sign):
            pieces.append(0)
        elif field == row.tag:
            pieces.append(block(True, kept))
        elif told is None or field not in row.lines:
            # Not there, or an extra: it is not there in what is passed on.
            pieces.append(block(True, left_out))
        else:
            lot, stands = told[row.lines[field][0]]
            pieces.append(block(stands, rows_met(plan, field, lot, sign)))
    return joined(plan, pieces)


def record_mark(plan, whole):
    """The mark of a record, from what its fields joined to."""
    names = [row.own for row in plan.rows]
    told = {}
    for name, piece in zip(names, pieces_of(plan, whole, len(names))):
        # Of a tagged kind one block at most is not 0: a word has one K.
        if piece != 0:
            told[name] = read_piece(plan, piece, names)
    return whole_mark(plan, told)


def record_start(plan):
    """The number of a record before its fields are asked for."""
    bits = bits_of(plan, [True for _ in plan.rows])
    return joined(plan, [block(True, bits) for _ in plan.rows])
