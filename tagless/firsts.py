"""First readings, told of all kinds at once, from the innermost parts of a document outwards.

Forms are a dict from the names of the kinds of one book to their forms. One part can be
asked for by many kinds, along many ways through the unions; so each part is read once by
each kind, and what contains it takes it from there.
"""

from tagless.documents import inner_parts, parts_of, sort_of


def fits_plain(form, part):
    """Whether a part fits the form of a plain kind."""
    sort = sort_of(part)
    if form[0] == "word":
        return sort == "text" and part in form[1]
    if form[0] == "int":
        return sort == "int" and form[1] <= part <= form[2]
    return sort == form[0]


def plain_first(name, form, part):
    """The reading by a plain kind, or None."""
    return (name, part) if fits_plain(form, part) else None


def list_first(name, form, part, below):
    """The first reading by a list kind, or None; below are those of the members, by all kinds."""
    _, item, low, high = form
    if not isinstance(part, list) or len(part) < low:
        return None
    if high is not None and len(part) > high:
        return None
    if not all([item in firsts for firsts in below]):
        return None
    return (name, tuple([firsts[item] for firsts in below]))


def record_first(name, form, fields):
    """The first reading by a record kind, or None; fields has those of the fields, by all kinds."""
    _, lets_extras, lines = form
    told = []
    for field, kind, wanted in sorted(lines):
        if field not in fields:
            if wanted:
                return None
        elif kind not in fields[field]:
            return None
        else:
            told.append((field, fields[field][kind]))
    if len(told) < len(fields) and not lets_extras:
        return None
    return (name, tuple(told))


def tagged_first(forms, name, part, fields):
    """The first reading of a record by a tagged kind, or None."""
    _, tag, lines = forms[name]
    rest = {field: fields[field] for field in fields if field != tag}
    for word, kind in lines:
        if tag in part and part[tag] == word:
            told = record_first(kind, forms[kind], rest)
            return None if told is None else (name, word, told)
    return None


def own_first(forms, name, part, below):
    """The first reading by a kind that is no either, or None."""
    form = forms[name]
    if form[0] == "list":
        return list_first(name, form, part, below)
    if form[0] not in ("record", "tagged"):
        return plain_first(name, form, part)
    if not isinstance(part, dict):
        return None
    fields = dict(zip(list(part), below))
    if form[0] == "record":
        return record_first(name, form, fields)
    return tagged_first(forms, name, part, fields)


def part_firsts(forms, eithers, part, below):
    """A dict from each kind that a part fits to its first reading by it."""
    firsts = {}
    for name in forms:
        told = None if forms[name][0] == "either" else own_first(forms, name, part, below)
        if told is not None:
            firsts[name] = told
    for name in eithers:
        fitting = [member for member in forms[name][1] if member in firsts]
        if fitting:
            firsts[name] = (name, fitting[0], firsts[fitting[0]])
    return firsts


def is_free(forms, name, waiting):
    """Whether no member of an either is one of those that still wait."""
    return not any([member in waiting for member in forms[name][1]])


def eithers_in_turn(forms):
    """The eithers, each behind those of its members that are eithers themselves."""
    waiting = [name for name in forms if forms[name][0] == "either"]
    told = []
    free = [name for name in waiting if is_free(forms, name, waiting)]
    while free:
        told.extend(free)
        waiting = [name for name in waiting if name not in free]
        free = [name for name in waiting if is_free(forms, name, waiting)]
    return told


def firsts_of_parts(forms, parts):
    """For each of the parts of a document, as parts_of has them, a dict from each kind it fits to its first reading."""
    eithers = eithers_in_turn(forms)
    firsts = [{} for _ in parts]
    # Inner parts stand in the sequence of what they are in, so those of the last part end the list.
    end = len(parts)
    for at in reversed(range(len(parts))):
        start = end - len(inner_parts(parts[at]))
        firsts[at] = part_firsts(forms, eithers, parts[at], firsts[start:end])
        end = start
    return firsts


def first_readings(forms, document):
    """A dict from the name of each kind that a document fits to its first reading by it."""
    return firsts_of_parts(forms, parts_of(document))[0]


def closed_forms(forms):
    """The forms with every record closed: what fits them are the written forms of the kinds."""
    closed = {}
    for name, form in forms.items():
        closed[name] = ("record", False, form[2]) if form[0] == "record" else form
    return closed
