"""A plain look at documents, by the words of the sections alone: no module of the package is asked.

Forms are dicts from names to forms. Everything is asked anew for each part, all small documents
are made one by one, and small books are made by a source of random numbers with a fixed seed.
"""

import itertools

NONE = type(None)


def kind_of_value(value):
    return {NONE: "none", bool: "bool", int: "int", str: "text", list: "list", dict: "record"}.get(type(value))


def is_document(value):
    sort = kind_of_value(value)
    if sort == "list":
        return all(is_document(part) for part in value)
    if sort == "record":
        return all(is_name(field) and is_document(part) for field, part in value.items())
    return sort is not None


def is_name(value):
    return type(value) is str and 1 <= len(value) <= 8 and all("a" <= letter <= "z" for letter in value)


def size(document):
    if type(document) is list:
        return 1 + sum(size(part) for part in document)
    if type(document) is dict:
        return 1 + sum(size(part) for part in document.values())
    return 1


def same(one, other):
    """Type by type, of documents, readings and other values."""
    if type(one) is not type(other):
        return False
    if type(one) in (list, tuple):
        return len(one) == len(other) and all(same(a, b) for a, b in zip(one, other))
    if type(one) is dict:
        return sorted(one) == sorted(other) and all(same(one[key], other[key]) for key in one)
    return one == other


def closed(forms):
    return {name: ("record", False, form[2]) if form[0] == "record" else form for name, form in forms.items()}


def all_readings(forms, name, document):
    """All readings, in their sequence."""
    form = forms[name]
    sort = form[0]
    if sort == "either":
        return [(name, member, told) for member in form[1] for told in all_readings(forms, member, document)]
    if sort == "tagged":
        if type(document) is not dict or type(document.get(form[1])) is not str:
            return []
        word = document[form[1]]
        inner = dict(form[2]).get(word)
        rest = {field: part for field, part in document.items() if field != form[1]}
        return [(name, word, told) for told in all_readings(forms, inner, rest)] if inner else []
    if sort == "list":
        if type(document) is not list or len(document) < form[2] or (form[3] is not None and len(document) > form[3]):
            return []
        rows = [all_readings(forms, form[1], part) for part in document]
        return [(name, row) for row in itertools.product(*rows)]
    if sort == "record":
        return record_readings(forms, name, document)
    return [(name, document)] if fits_plain(form, document) else []


def fits_plain(form, document):
    if form[0] == "int":
        return type(document) is int and form[1] <= document <= form[2]
    if form[0] == "word":
        return type(document) is str and document in form[1]
    return type(document) is {"none": NONE, "bool": bool, "text": str}[form[0]]


def record_readings(forms, name, document):
    _, lets, lines = forms[name]
    if type(document) is not dict:
        return []
    if not lets and set(document) - {line[0] for line in lines}:
        return []
    if {field for field, _, wanted in lines if wanted} - set(document):
        return []
    fields = sorted((field, kind) for field, kind, _ in lines if field in document)
    rows = [all_readings(forms, kind, document[field]) for field, kind in fields]
    return [(name, tuple((field, told) for (field, _), told in zip(fields, row))) for row in itertools.product(*rows)]


def fits(forms, name, document):
    return len(all_readings(forms, name, document)) > 0


def first(forms, name, document):
    told = all_readings(forms, name, document)
    return told[0] if told else None


def written(forms, reading):
    name = reading[0]
    form = forms[name]
    if form[0] == "list":
        return [written(forms, told) for told in reading[1]]
    if form[0] == "record":
        return {field: written(forms, told) for field, told in reading[1]}
    if form[0] == "either":
        return written(forms, reading[2])
    if form[0] == "tagged":
        return {**written(forms, reading[2]), form[1]: reading[1]}
    return reading[1]


def of_side(forms, side, document):
    _, name, how, word = side
    if name == "":
        return True
    if not fits(forms if how == "any" else closed(forms), name, document):
        return False
    return word == "" or document[forms[name][1]] == word


def lot(forms, document):
    return tuple(sorted(name for name in forms if fits(forms, name, document)))


def way(forms, document):
    rows = []
    for name in lot(forms, document):
        told = first(forms, name, document)
        again = written(forms, told)
        rows.append((name, lot(forms, again), same(first(forms, name, again), told)))
    return tuple(rows)


def lost(forms, reading):
    return not same(first(forms, reading[0], written(forms, reading)), reading)


def leaves(forms):
    numbers, words = {0}, {""}
    for form in forms.values():
        if form[0] == "int":
            numbers |= {form[1], form[2], form[1] - 1, form[2] + 1}
        if form[0] == "word":
            words |= set(form[1])
        if form[0] == "tagged":
            words |= {word for word, _ in form[2]}
    return [None, False, True] + sorted(numbers) + sorted(words)


def names_of_fields(forms):
    names = set()
    for form in forms.values():
        if form[0] == "record":
            names |= {line[0] for line in form[2]}
        if form[0] == "tagged":
            names.add(form[1])
    return sorted(names) + ["other"]


def shares(whole, many):
    """All ways to share out a number among so many, each getting one at least."""
    if many == 0:
        return [()] if whole == 0 else []
    return [(one,) + rest for one in range(1, whole - many + 2) for rest in shares(whole - one, many - 1)]


def documents(forms, most):
    """All documents of up to this size, the lesser ones first, with the leaves and fields of the book and one more."""
    by_size = {1: leaves(forms) + [[], {}]}
    fields = names_of_fields(forms)
    for whole in range(2, most + 1):
        told = []
        for many in range(1, whole):
            for share in shares(whole - 1, many):
                for row in itertools.product(*[by_size[part] for part in share]):
                    told.append(list(row))
                    for names in itertools.combinations(fields, many):
                        told.append(dict(zip(names, row)))
        by_size[whole] = told
    return [document for whole in sorted(by_size) for document in by_size[whole]]


def some_forms(source, further=()):
    """The forms of a small book: plain kinds, and some of lists, records, eithers and tagged kinds."""
    forms = {"n": ("int", 0, 1), "t": ("word", ("p", "q"))}
    if source.random() < 0.5:
        forms["s"] = ("text",)
    if source.random() < 0.3:
        forms["m"] = ("int", 1, 2)
    if source.random() < 0.3:
        forms["z"] = ("none",)
    outer = [name for name in "abcdlguvw" if source.random() < 0.75] or ["a"]
    records = [name for name in outer if name in "abcd"]
    names = list(forms) + outer
    for name in outer:
        if name in "abcd":
            fields = [field for field in "xyk" if field != "k" or name == "d"]
            rows = [(field, source.choice(names), source.random() < 0.6) for field in fields if source.random() < 0.6]
            source.shuffle(rows)
            forms[name] = ("record", source.random() < 0.5, tuple(rows))
        elif name == "l":
            low = source.choice((0, 0, 1, 2))
            forms[name] = ("list", source.choice(names), low, source.choice([low, 2, 3, None]))
        elif name == "g" and [record for record in records if record != "d"]:
            inner = [record for record in records if record != "d"]
            words = source.sample(["p", "q", "r"], source.randint(1, 3))
            forms[name] = ("tagged", "k", tuple((word, source.choice(inner)) for word in words))
    for at, name in enumerate("uvw"):
        members = [member for member in forms if member not in "uvw" or member > name]
        later = [member for member in "uvw"[at + 1:] if member in outer]
        members = sorted(set(members) | set(later))
        if name in outer:
            forms[name] = ("either", tuple(source.sample(members, min(len(members), source.randint(2, 4)))))
    return mended(forms)


def mended(forms):
    """The forms without kinds that there are not: what names one is left out, until nothing changes."""
    while True:
        kept = {name: form for name, form in forms.items() if all(kind in forms for kind in named(form))}
        if len(kept) == len(forms):
            return forms
        forms = kept


def named(form):
    if form[0] == "list":
        return [form[1]]
    if form[0] == "either":
        return list(form[1])
    if form[0] in ("record", "tagged"):
        return [row[1] for row in form[2]]
    return []


def rows(forms):
    return tuple(forms.items())
