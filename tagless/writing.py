"""Readings as values: whether one is a reading at all, and what is written for it."""

from tagless.documents import sort_of
from tagless.firsts import fits_plain


def is_list_reading(form, value):
    """Whether any value stands for the members of a list of the right length."""
    if not isinstance(value, tuple) or len(value) < form[2]:
        return False
    return form[3] is None or len(value) <= form[3]


def is_record_reading(form, value):
    """Whether any value stands for fields that a record of this form may have, ascending, none missing."""
    if not isinstance(value, tuple):
        return False
    if not all([isinstance(row, tuple) and len(row) == 2 and isinstance(row[0], str) for row in value]):
        return False
    fields = [row[0] for row in value]
    lines = [row[0] for row in form[2]]
    wanted = [row[0] for row in form[2] if row[2]]
    if fields != sorted(set(fields)) or not all([field in lines for field in fields]):
        return False
    return all([field in fields for field in wanted])


def is_outer_reading(forms, value):
    """Whether any value is a reading, as far as it can be told without the readings in it."""
    if not isinstance(value, tuple) or len(value) not in (2, 3):
        return False
    if not isinstance(value[0], str) or value[0] not in forms:
        return False
    form = forms[value[0]]
    if form[0] == "either":
        return len(value) == 3 and isinstance(value[1], str) and value[1] in form[1]
    if form[0] == "tagged":
        return len(value) == 3 and isinstance(value[1], str) and value[1] in [row[0] for row in form[2]]
    if len(value) != 2:
        return False
    if form[0] == "list":
        return is_list_reading(form, value[1])
    if form[0] == "record":
        return is_record_reading(form, value[1])
    return fits_plain(form, value[1])


def inner_readings(forms, reading):
    """Rows (kind, value): what stands in a reading, and the kind by which it has to be one."""
    form = forms[reading[0]]
    if form[0] == "list":
        return [(form[1], value) for value in reading[1]]
    if form[0] == "record":
        kinds = {row[0]: row[1] for row in form[2]}
        return [(kinds[field], value) for field, value in reading[1]]
    if form[0] == "either":
        return [(reading[1], reading[2])]
    if form[0] == "tagged":
        return [(row[1], reading[2]) for row in form[2] if row[0] == reading[1]]
    return []


def is_any_reading(forms, value):
    """Whether any value is a reading of some document by some kind."""
    rows = [(None, value)]
    at = 0
    while at < len(rows):
        kind, row = rows[at]
        if not is_outer_reading(forms, row) or kind is not None and row[0] != kind:
            return False
        rows.extend(inner_readings(forms, row))
        at += 1
    return True


def outer_document(forms, reading, inner):
    """What is written for a reading, from what is written for the readings in it."""
    form = forms[reading[0]]
    if form[0] == "list":
        return inner
    if form[0] == "record":
        return dict(zip([field for field, _ in reading[1]], inner))
    if form[0] == "either":
        return inner[0]
    if form[0] == "tagged":
        whole = dict(inner[0])
        whole[form[1]] = reading[1]
        return whole
    return reading[1]


def document_of(forms, reading):
    """The document of which this is a reading, without extras."""
    rows = [reading]
    at = 0
    while at < len(rows):
        rows.extend([row for _, row in inner_readings(forms, rows[at])])
        at += 1
    made = [None for _ in rows]
    # The readings within one stand in its sequence, so those within the last one end the list.
    end = len(rows)
    for at in reversed(range(len(rows))):
        start = end - len(inner_readings(forms, rows[at]))
        made[at] = outer_document(forms, rows[at], made[start:end])
        end = start
    return made[0]


def same_readings(one, other):
    """Whether two readings, by kinds of any books, are the same: True is not 1."""
    # Documents that are no tuples stand at the ends of readings, and so do the names of kinds, fields and members.
    pairs = [(one, other)]
    while pairs:
        left, right = pairs.pop()
        if isinstance(left, tuple) and isinstance(right, tuple):
            if len(left) != len(right):
                return False
            pairs.extend(list(zip(left, right)))
        elif sort_of(left) != sort_of(right) or left != right:
            return False
    return True
