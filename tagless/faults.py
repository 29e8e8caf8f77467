"""Faults: why a document does not fit a kind.

A fault is looked for, or looked at, along one way from the outermost part inwards. A place on
this way is a row (kind, place of the part in its tree, dropped): dropped is the field that a
tagged kind has read already, or the empty string.
"""

from tagless.documents import sort_of
from tagless.firsts import fits_plain
from tagless.trees import line_of


def record_fields(tree, at, dropped):
    """A dict from the fields of the record at this place to the places of their documents."""
    start = tree.starts[at]
    return {field: start + many for many, field in enumerate(tree.parts[at]) if field != dropped}


def list_faults(tree, form, at):
    """Faults of what shall be a list, as fault_rows has them."""
    part = tree.parts[at]
    if not isinstance(part, list):
        return [(("value",), None)]
    rows = []
    if len(part) < form[2] or form[3] is not None and len(part) > form[3]:
        rows.append((("length",), None))
    for many in range(len(part)):
        if not tree.fits(form[1], tree.starts[at] + many):
            rows.append((("item", many), (form[1], tree.starts[at] + many, "")))
    return rows


def record_faults(tree, form, at, dropped):
    """Faults of what shall be a record, as fault_rows has them."""
    if not isinstance(tree.parts[at], dict):
        return [(("value",), None)]
    fields = record_fields(tree, at, dropped)
    known = {row[0]: row[1] for row in form[2]}
    rows = [(("lacks", row[0]), None) for row in form[2] if row[2] and row[0] not in fields]
    for field, place in fields.items():
        if field in known and not tree.fits(known[field], place):
            rows.append((("field", field), (known[field], place, "")))
        elif field not in known and not form[1]:
            rows.append((("extra", field), None))
    return rows


def tagged_faults(tree, form, at):
    """Faults of what shall be a record with a tag, as fault_rows has them."""
    part = tree.parts[at]
    if not isinstance(part, dict):
        return [(("value",), None)]
    # Of documents only strings are asked for among the words: True is not 1, and lists are no keys.
    word = part[form[1]] if form[1] in part else None
    line = line_of(form, word) if sort_of(word) == "text" else None
    if line is None:
        return [(("tag",), None)]
    return record_faults(tree, tree.table[line[1]], at, form[1])


def fault_rows(tree, row):
    """All faults of a part that does not fit the kind, each up to the next part.

    Rows (head, row): the words of the fault, and the place where it goes on, None if it ends here.
    """
    name, at, dropped = row
    form = tree.table[name]
    if form[0] == "list":
        return list_faults(tree, form, at)
    if form[0] == "record":
        return record_faults(tree, form, at, dropped)
    if form[0] == "tagged":
        return tagged_faults(tree, form, at)
    if form[0] == "either":
        return [] if tree.fits(name, at) else [(("member", member), (member, at, "")) for member in form[1]]
    return [] if fits_plain(form, tree.parts[at]) else [(("value",), None)]


def any_fault(tree, kind):
    """A fault of the document of a tree that does not fit the kind."""
    heads = []
    row = (kind, 0, "")
    while row is not None:
        head, row = fault_rows(tree, row)[0]
        heads.append(head)
    fault = heads.pop()
    while heads:
        fault = heads.pop() + (fault,)
    return fault


def is_head(value, head):
    """Whether any value begins with the words of a fault."""
    if not isinstance(value, tuple) or len(value) < len(head):
        return False
    for place, wanted in zip(value, head):
        if sort_of(place) != sort_of(wanted) or place != wanted:
            return False
    return True


def is_fault(tree, kind, value):
    """Whether any value is a fault of the document of a tree that does not fit the kind."""
    row = (kind, 0, "")
    while row is not None:
        meant = [(head, below) for head, below in fault_rows(tree, row) if is_head(value, head)]
        if not meant:
            return False
        head, row = meant[0]
        if len(value) != len(head) + (0 if row is None else 1):
            return False
        if row is not None:
            value = value[-1]
    return True
