"""A plain look at documents, by the words of the sections alone: no module of the package is asked.

Forms are dicts from names to forms. Everything is asked anew for each part, all small documents
are made one by one, and small books are made by a source of random numbers with a fixed seed.
"""

import itertools

NONE = type(None)


def kind_of_value(value):
    return {NONE: "none", bool: "bool", int: "int", str: "text", list: "list", dict: "record"}.get(type(value))


def is_document(value):
    sort = kind_of_value(value)
    if sort == "list":
        return all(is_document(part) for part in value)
    if sort == "record":
        return all(is_name(field) and is_document(part) for field, part in value.items())
    return sort is not None


def is_name(value):
    return type(value) is str and 1 <= len(value) <= 8 and all("a" <= letter <= "z" for letter in value)


def size(document):
    if type(document) is list:
        return 1 + sum(size(part) for part in document)
    if type(document) is dict:
        return 1 + sum(size(part) for part in document.values())
    return 1


def same(one, other):
    """Type by type, of documents, readings and other values."""
    if type(one) is not type(other):
        return False
    if type(one) in (list, tuple):
        return len(one) == len(other) and all(same(a, b) for a, b in zip(one, other))
    if type(one) is dict:
        return sorted(one) == sorted(other) and all(same(one[key], other[key]) for key in one)
    return one == other


def closed(forms):
    return {name: ("record", False, form[2]) if form[0] == "record" else form for name, form in forms.items()}


def all_readings(forms, name, document):
    """All readings, in their sequence."""
    form = forms[name]
    sort = form[0]
    if sort == "either":
        return [(name, member, told) for member in form[1] for told in all_readings(forms, member, document)]
    if sort == "tagged":
        if type(document) is not dict or type(document.get(form[1])) is not str:
            return []
        word = document[form[1]]
        inner = dict(form[2]).get(word)
        rest = {field: part for field, part in document.items() if field != form[1]}
        return [(name, word, told) for told in all_readings(forms, inner, rest)] if inner else []
    if sort == "list":
        if type(document) is not list or len(document) < form[2] or (form[3] is not None and len(document) > form[3]):
            return []
        rows = [all_readings(forms, form[1], part) for part in document]
        return [(name, row) for row in itertools.product(*rows)]
    if sort == "record":
        return record_readings(forms, name, document)
    return [(name, document)] if fits_plain(form, document) else []


def fits_plain(form, document):
    if form[0] == "int":
        return type(document) is int and form[1] <= document <= form[2]
    if form[0] == "word":
        return type(document) is str and document in form[1]
    return type(document) is {"none": NONE, "bool": bool, "text": str}[form[0]]


def record_readings(forms, name, document):
    _, lets, lines = forms[name]
    if type(document) is not dict:
        return []
    if not lets and set(document) - {line[0] for line in lines}:
        return []
    if {field for field, _, wanted in lines if wanted} - set(document):
        return []
    fields = sorted((field, kind) for field, kind, _ in lines if field in document)
    rows = [all_readings(forms, kind, document[field]) for field, kind in fields]
    return [(name, tuple((field, told) for (field, _), told in zip(fields, row))) for row in itertools.product(*rows)]


def fits(forms, name, document):
    return len(all_readings(forms, name, document)) > 0


def first(forms, name, document):
    told = all_readings(forms, name, document)
    return told[0] if told else None


def written(forms, reading):
    name = reading[0]
    form = forms[name]
    if form[0] == "list":
        return [written(forms, told) for told in reading[1]]
    if form[0] == "record":
        return {field: written(forms, told) for field, told in reading[1]}
    if form[0] == "either":
        return written(forms, reading[2])
    if form[0] == "tagged":
        return {**written(forms, reading[2]), form[1]: reading[1]}
    return reading[1]


def of_side(forms, side, document):
    _, name, how, word = side
    if name == "":
        return True
    if not fits(forms if how == "any" else closed(forms), name, document):
        return False
    return word == "" or document[forms[name][1]] == word


def lot(forms, document):
    return tuple(sorted(name for name in forms if fits(forms, name, document)))


def way(forms, document):
    rows = []
    for name in lot(forms, document):
        told = first(forms, name, document)
        again = written(forms, told)
        rows.append((name, lot(forms, again), same(first(forms, name, again), told)))
    return tuple(rows)


def lost(forms, reading):
    return not same(first(forms, reading[0], written(forms, reading)), reading)


def leaves(forms):
    numbers, words = {0}, {""}
    for form in forms.values():
        if form[0] == "int":
            numbers |= {form[1], form[2], form[1] - 1, form[2] + 1}
        if form[0] == "word":
            words |= set(form[1])
        if form[0] == "tagged":
            words |= {word for word, _ in form[2]}
    return [None, False, True] + sorted(numbers) + sorted(words)


def names_of_fields(forms):
    names = set()
    for form in forms.values():
        if form[0] == "record":
            names |= {line[0] for line in form[2]}
        if form[0] == "tagged":
            names.add(form[1])
    return sorted(names) + ["other"]


def shares(whole, many):
    """All ways to share out a number among so many, each getting one at least."""
    if many == 0:
        return [()] if whole == 0 else []
    return [(one,) + rest for one in range(1, whole - many + 2) for rest in shares(whole - one, many - 1)]


def documents(forms, most):
    """All documents of up to this size, the lesser ones first, with the leaves and fields of the book and one more."""
    by_size = {1: leaves(forms) + [[], {}]}
    fields = names_of_fields(forms)
    for whole in range(2, most + 1):
        told = []
        for many in range(1, whole):
            for share in shares(whole - 1, many):
                for row in itertools.product(*[by_size[part] for part in share]):
                    told.append(list(row))
                    for names in itertools.combinations(fields, many):
                        told.append(dict(zip(names, row)))
        by_size[whole] = told
    return [document for whole in sorted(by_size) for document in by_size[whole]]


def some_forms(source, further=()):
    """The forms of a small book: plain kinds, and some of lists, records, eithers and tagged kinds."""
    forms = {"n": ("int", 0, 1), "t": ("word", ("p", "q"))}
    if source.random() < 0.5:
        forms["s"] = ("text",)
    if source.random() < 0.3:
        forms["m"] = ("int", 1, 2)
    if source.random() < 0.3:
        forms["z"] = ("none",)
    outer = [name for name in "abcdlguvw" if source.random() < 0.75] or ["a"]
    records = [name for name in outer if name in "abcd"]
    names = list(forms) + outer
    for name in outer:
        if name in "abcd":
            fields = [field for field in "xyk" if field != "k" or name == "d"]
            rows = [(field, source.choice(names), source.random() < 0.6) for field in fields if source.random() < 0.6]
            source.shuffle(rows)
            forms[name] = ("record", source.random() < 0.5, tuple(rows))
        elif name == "l":
            low = source.choice((0, 0, 1, 2))
            forms[name] = ("list", source.choice(names), low, source.choice([low, 2, 3, None]))
        elif name == "g" and [record for record in records if record != "d"]:
            inner = [record for record in records if record != "d"]
            words = source.sample(["p", "q", "r"], source.randint(1, 3))
            forms[name] = ("tagged", "k", tuple((word, source.choice(inner)) for word in words))
    for at, name in enumerate("uvw"):
        members = [member for member in forms if member not in "uvw" or member > name]
        later = [member for member in "uvw"[at + 1:] if member in outer]
        members = sorted(set(members) | set(later))
        if name in outer:
            forms[name] = ("either", tuple(source.sample(members, min(len(members), source.randint(2, 4)))))
    return mended(forms)


def mended(forms):
    """The forms without kinds that there are not: what names one is left out, until nothing changes."""
    while True:
        kept = {name: form for name, form in forms.items() if all(kind in forms for kind in named(form))}
        if len(kept) == len(forms):
            return forms
        forms = kept


def named(form):
    if form[0] == "list":
        return [form[1]]
    if form[0] == "either":
        return list(form[1])
    if form[0] in ("record", "tagged"):
        return [row[1] for row in form[2]]
    return []


def rows(forms):
    return tuple(forms.items())


# Evidence, as the sections 7 to 12 tell what is right by itself.

ALL = (0, "", "any", "")


def ints(*values):
    return all(type(value) is int for value in values)


def is_tuple(value, many=None):
    return type(value) is tuple and (many is None or len(value) == many)


def is_side(forms, value):
    if not is_tuple(value, 4) or type(value[0]) is not int or [type(word) for word in value[1:]] != [str] * 3:
        return False
    number, name, how, word = value
    if value == ALL:
        return True
    if number != 0 or name not in forms or how not in ("any", "written"):
        return False
    return word == "" or forms[name][0] == "tagged" and word in [row[0] for row in forms[name][2]]


def all_sides(forms):
    sides = [ALL]
    for name, form in forms.items():
        for how in ("any", "written"):
            sides.append((0, name, how, ""))
            if form[0] == "tagged":
                sides.extend((0, name, how, word) for word, _ in form[2])
    return sides


def pair(one, other):
    return tuple(sorted((one, other)))


def union_parts(forms, side):
    """The parts of a union, None of what is none."""
    if side == ALL:
        return None
    _, name, how, word = side
    form = forms[name]
    if form[0] == "either":
        return [(0, member, how, "") for member in form[1]]
    if form[0] == "tagged" and word == "":
        return [(0, name, how, line[0]) for line in form[2]]
    return None


def record_of(forms, side):
    """(fields with a side and whether they are wanted, lets extras, FIELD, word) of a record or a line."""
    _, name, how, word = side
    form = forms[name]
    record, field = (forms[dict(form[2])[word]], form[1]) if word else (form, "")
    lines = {row[0]: ((0, row[1], how, ""), row[2]) for row in record[2]}
    return lines, record[1] and how == "any", field, word


def sort_of_side(forms, side):
    sort = forms[side[1]][0]
    return {"word": "text", "tagged": "record"}.get(sort, sort)


def apart_by(forms, two, known):
    """Whether a pair is apart by the pairs that are known."""
    one, other = two
    unions = [(union_parts(forms, side), against) for side, against in ((one, other), (other, one))]
    if any(parts is not None for parts, _ in unions):
        return any(all(pair(part, against) in known for part in parts) for parts, against in unions if parts is not None)
    if one == ALL and other == ALL:
        return False
    if ALL in two:
        return beside_all(forms, other if one == ALL else one, known)
    sorts = [sort_of_side(forms, side) for side in two]
    if sorts[0] != sorts[1]:
        return True
    first, second = forms[one[1]], forms[other[1]]
    if sorts[0] == "int":
        return first[2] < second[1] or second[2] < first[1]
    if sorts[0] == "text":
        return first[0] == second[0] == "word" and not set(first[1]) & set(second[1])
    if sorts[0] == "list":
        return lists_apart(one, other, first, second, known)
    if sorts[0] == "record":
        return records_apart(forms, one, other, known) or records_apart(forms, other, one, known)
    return False


def beside_all(forms, side, known):
    if sort_of_side(forms, side) == "list":
        _, item, low, _ = forms[side[1]]
        return low > 0 and pair((0, item, side[2], ""), ALL) in known
    if sort_of_side(forms, side) == "record":
        lines, _, _, _ = record_of(forms, side)
        return any(pair(inner, ALL) in known for inner, wanted in lines.values() if wanted)
    return False


def lists_apart(one, other, first, second, known):
    lengths = [set(range(form[2], 9 if form[3] is None else form[3] + 1)) for form in (first, second)]
    if not lengths[0] & lengths[1]:
        return True
    items = pair((0, first[1], one[2], ""), (0, second[1], other[2], ""))
    return (first[2] > 0 or second[2] > 0) and items in known


def records_apart(forms, one, other, known):
    """Whether the first one wants what the other one has not, or not so."""
    lines, _, field, word = record_of(forms, one)
    others, lets, other_field, other_word = record_of(forms, other)
    if field:
        if field == other_field:
            if word != other_word:
                return True
        elif field in others:
            if not fits(forms, others[field][0][1], word):
                return True
        elif not lets:
            return True
    for name, (side, wanted) in lines.items():
        if wanted and name != other_field:
            if name in others:
                if pair(side, others[name][0]) in known:
                    return True
            elif not lets or pair(side, ALL) in known:
                return True
    return False


def is_closed(forms, value):
    if not is_tuple(value) or not all(is_tuple(two, 2) and all(is_side(forms, side) for side in two) for two in value):
        return False
    if not all(two[0] <= two[1] for two in value) or list(value) != sorted(set(value)):
        return False
    known = set(value)
    return all(apart_by(forms, two, known) for two in value)


def inner_kinds(form):
    if form[0] == "list" and form[3] == 0:
        return []
    return named(form)


def all_round(forms, kind, names, pairs):
    if not is_tuple(names) or not all(type(name) is str and name in forms for name in names):
        return False
    if list(names) != sorted(set(names)):
        return False
    empty = {name for name in forms if pair((0, name, "any", ""), ALL) in pairs}
    if kind not in names and kind not in empty:
        return False
    return all(inner in names or inner in empty for name in names for inner in inner_kinds(forms[name]))


def no_split(forms, kind, value, how):
    """Whether names and pairs show that the eithers all round a kind have members that are apart."""
    names, pairs = value
    if not is_closed(forms, pairs) or not all_round(forms, kind, names, pairs):
        return False
    for name in names:
        if forms[name][0] == "either":
            for one, later in itertools.combinations(forms[name][1], 2):
                if pair((0, one, "any", ""), (0, later, how, "")) not in pairs:
                    return False
    return True


def shows_meet(forms, one, other, value):
    if not is_tuple(value, 2) or type(value[0]) is not str:
        return False
    if value[0] == "meet":
        return is_document(value[1]) and of_side(forms, one, value[1]) and of_side(forms, other, value[1])
    return value[0] == "apart" and is_closed(forms, value[1]) and pair(one, other) in value[1]


def shows_single(forms, kind, value):
    if is_tuple(value, 3) and same(value[0], "one"):
        return no_split(forms, kind, value[1:], "any")
    if not is_tuple(value, 2) or not same(value[0], "two") or not is_document(value[1]):
        return False
    return len(all_readings(forms, kind, value[1])) > 1


def is_reading(forms, value):
    """By the words: whether it is one of the readings of what would be written for it."""
    try:
        document = written(forms, value)
    except (KeyError, TypeError, IndexError, ValueError, AttributeError):
        return False
    return is_document(document) and any(same(value, told) for told in all_readings(forms, value[0], document))


def shows_back(forms, kind, value):
    if is_tuple(value, 3) and same(value[0], "back"):
        return no_split(forms, kind, value[1:], "written")
    if not is_tuple(value, 2) or not same(value[0], "lost") or not is_reading(forms, value[1]):
        return False
    return value[1][0] == kind and lost(forms, value[1])


def safe_sequences(many, musts):
    return [row for row in itertools.permutations(range(many))
            if all(row.index(j) < row.index(i) for j, i in musts)]


def is_must(forms, members, row):
    if not is_tuple(row, 3) or not ints(*row[:2]) or row[0] == row[1] or not is_document(row[2]):
        return False
    if not all(0 <= number < len(members) for number in row[:2]):
        return False
    return fits(closed(forms), members[row[0]], row[2]) and fits(forms, members[row[1]], row[2])


def shows_orders(forms, kind, value):
    members = forms[kind][1]
    if is_tuple(value, 2) and same(value[0], "ring"):
        rows = value[1]
        if not is_tuple(rows) or len(rows) < 2 or not all(is_must(forms, members, row) for row in rows):
            return False
        ahead = [row[0] for row in rows]
        return len(set(ahead)) == len(ahead) and all(rows[at - 1][1] == rows[at][0] for at in range(len(rows)))
    if not is_tuple(value, 5) or not same(value[0], "safe"):
        return False
    _, numbers, many, rows, pairs = value
    if not is_tuple(rows) or not all(is_must(forms, members, row) for row in rows) or not is_closed(forms, pairs):
        return False
    musts = [row[:2] for row in rows]
    if musts != sorted(set(musts)):
        return False
    for j, i in itertools.permutations(range(len(members)), 2):
        if (j, i) not in musts and pair((0, members[j], "written", ""), (0, members[i], "any", "")) not in pairs:
            return False
    safe = safe_sequences(len(members), musts)
    return len(safe) > 0 and same(numbers, safe[0]) and same(many, len(safe))


def shows_rows(value, right, told):
    """Whether a value is a row for each of these lots, or ways, each with a document of which it is told."""
    if not is_tuple(value) or len(value) != len(right):
        return False
    if not all(is_tuple(row, 2) and is_document(row[1]) for row in value):
        return False
    return all(same(row[0], mark) and told(row[1]) == mark for row, mark in zip(value, right))


def shows_within(forms, one, other, value, right):
    if not is_tuple(value, 2) or type(value[0]) is not str:
        return False
    if value[0] == "not":
        return is_document(value[1]) and fits(forms, one, value[1]) and not fits(forms, other, value[1])
    if value[0] != "within" or any(one in told and other not in told for told in right):
        return False
    return shows_rows(value[1], right, lambda document: lot(forms, document))


def turns(told, kind):
    return any(row[0] == kind and row[2] is False for row in told)


def shows_steady(forms, kind, value, right):
    if not is_tuple(value, 2) or type(value[0]) is not str:
        return False
    if value[0] == "turns":
        return is_document(value[1]) and turns(way(forms, value[1]), kind)
    if value[0] != "steady" or any(turns(told, kind) for told in right):
        return False
    return shows_rows(value[1], right, lambda document: way(forms, document))


def faults(forms, name, document):
    """All faults of a document that does not fit a kind, none of one that fits."""
    form = forms[name]
    if fits(forms, name, document):
        return []
    if form[0] == "either":
        return [("member", member, fault) for member in form[1] for fault in faults(forms, member, document)]
    if form[0] == "list":
        if type(document) is not list:
            return [("value",)]
        told = [("item", at, fault) for at, part in enumerate(document) for fault in faults(forms, form[1], part)]
        wrong = len(document) < form[2] or form[3] is not None and len(document) > form[3]
        return told + ([("length",)] if wrong else [])
    if form[0] not in ("record", "tagged") or type(document) is not dict:
        return [("value",)]
    if form[0] == "tagged":
        word = document.get(form[1])
        if type(word) is not str or word not in dict(form[2]):
            return [("tag",)]
        rest = {field: part for field, part in document.items() if field != form[1]}
        return faults(forms, dict(form[2])[word], rest)
    lines = {row[0]: row[1] for row in form[2]}
    told = [("lacks", row[0]) for row in form[2] if row[2] and row[0] not in document]
    told += [("extra", field) for field in document if field not in lines and not form[1]]
    return told + [("field", field, fault) for field in document if field in lines
                   for fault in faults(forms, lines[field], document[field])]


# Lines, growth, drafts and repairs.

def fallen(forms, reading, document, at=()):
    """The paths of the extras of a document by a reading, which are in no other extra."""
    form = forms[reading[0]]
    if form[0] == "list":
        return [path for number, told in enumerate(reading[1])
                for path in fallen(forms, told, document[number], at + (number,))]
    if form[0] == "either":
        return fallen(forms, reading[2], document, at)
    if form[0] == "tagged":
        return fallen(forms, reading[2], {name: part for name, part in document.items() if name != form[1]}, at)
    if form[0] != "record":
        return []
    lines = [row[0] for row in form[2]]
    told = [at + (field,) for field in document if field not in lines]
    return told + [path for field, inner in reading[1] for path in fallen(forms, inner, document[field], at + (field,))]


def without(document, path):
    """The document without what this path leads to."""
    if len(path) == 1:
        return {field: part for field, part in document.items() if field != path[0]}
    return changed(document, path[:1], without(document[path[0]], path[1:]))


def is_broken(elder, newer, reading):
    """Whether the newer book does not read as it is what the elder one writes for a reading."""
    document = written(elder, reading)
    return reading[0] not in newer or not same(first(newer, reading[0], document), reading)


NEWER = "~"


def beside(elder, newer):
    """One book of both: the names of the newer one are marked, and stand behind those of the elder one."""
    return {**elder, **{NEWER + name: renamed(form) for name, form in newer.items()}}


def renamed(form):
    if form[0] == "list":
        return ("list", NEWER + form[1]) + form[2:]
    if form[0] == "either":
        return ("either", tuple(NEWER + name for name in form[1]))
    if form[0] == "record":
        return form[:2] + (tuple((row[0], NEWER + row[1], row[2]) for row in form[2]),)
    if form[0] == "tagged":
        return form[:2] + (tuple((row[0], NEWER + row[1]) for row in form[2]),)
    return form


def in_both(side):
    """A side of one of two books as a side of both; what is no such side stays none."""
    if not is_tuple(side, 4) or type(side[0]) is not int or type(side[1]) is not str or side[1].startswith(NEWER):
        return None
    if side[0] == 1:
        return (0, NEWER + side[1]) + side[2:]
    return side


def closed_in_both(elder, newer, value):
    if not is_tuple(value) or not all(is_tuple(two, 2) for two in value):
        return False
    rows = tuple(tuple(in_both(side) for side in two) for two in value)
    return all(None not in two for two in rows) and is_closed(beside(elder, newer), rows)


def word_of_sort(form):
    return form[0] if form[0] in ("list", "record", "either", "tagged") else "plain"


def lengths(form, empty=False):
    if empty:
        return {0}
    return set(range(form[2], 9 if form[3] is None else form[3] + 1))


def kept_beside(elder, newer, name, empty, pairs):
    """Whether a kind of the elder book is kept by the words of section 13, beside pairs and what is empty beside them."""
    if name not in newer or word_of_sort(elder[name]) != word_of_sort(newer[name]):
        return False
    one, other = elder[name], newer[name]
    if one[0] == "list":
        if not lengths(one, one[1] in empty) <= lengths(other):
            return False
        return one[1] == other[1] or one[1] in empty or one[3] == 0
    if one[0] == "record":
        mine, yours = {row[0]: row for row in one[2]}, {row[0]: row for row in other[2]}
        if any(mine[field][1] not in empty and (field not in yours or yours[field][1] != mine[field][1]) for field in mine):
            return False
        return all(field in mine and mine[field][2] for field in yours if yours[field][2])
    if one[0] == "tagged":
        return one[1] == other[1] and all(dict(other[2]).get(word) == kind for word, kind in one[2] if kind not in empty)
    if one[0] == "either":
        for member in one[1]:
            if member not in empty:
                if member not in other[1]:
                    return False
                for ahead in other[1][:other[1].index(member)]:
                    if ((0, member, "written", ""), (1, ahead, "any", "")) not in pairs:
                        return False
        return True
    return all(fits_plain(other, document) for document in leaves({"a": one, "b": other}) if fits_plain(one, document))


def shows_keeps(elder, newer, value):
    if not is_tuple(value, 2) or type(value[0]) is not str:
        return False
    if value[0] == "breaks":
        return is_reading(elder, value[1]) and is_broken(elder, newer, value[1])
    if value[0] != "keeps" or not closed_in_both(elder, newer, value[1]):
        return False
    empty = {name for name in elder if pair((0, name, "any", ""), ALL) in value[1]}
    return all(kept_beside(elder, newer, name, empty, value[1]) for name in elder if name not in empty)


def other_forms(source, forms):
    """The forms of a book that has one thing, or two, otherwise: most of them are grown."""
    told = dict(forms)
    for _ in range(source.randint(1, 2)):
        name = source.choice(sorted(told))
        told[name] = other_form(source, told, name)
    if source.random() < 0.1:
        gone = source.choice(sorted(told))
        told = mended({name: form for name, form in told.items() if name != gone}) or told
    return told


def other_form(source, forms, name):
    form = forms[name]
    names = sorted(forms)
    if form[0] == "int":
        return ("int", form[1] - source.choice((0, 0, 1)), form[2] + source.choice((0, 1)))
    if form[0] == "word":
        more = form[1] if "r" in form[1] else form[1] + ("r",)
        return source.choice([("text",), ("word", more), ("word", form[1][1:] or form[1])])
    if form[0] == "list":
        low = source.randint(0, form[2])
        return ("list", source.choice([form[1]] * 4 + names), low, source.choice([form[3], None, 4]))
    if form[0] == "record":
        return ("record", source.choice((form[1], not form[1])), other_lines(source, names, form[2]))
    if form[0] == "tagged":
        records = [other for other in names if forms[other][0] == "record" and form[1] not in [row[0] for row in forms[other][2]]]
        told = dict(form[2])
        if records:
            told[source.choice("pqr")] = source.choice(records)
        return ("tagged", source.choice([form[1]] * 5 + ["j"]), tuple(told.items()))
    if form[0] == "either":
        return ("either", other_members(source, names, name, form[1]))
    return source.choice([form, ("text",), ("bool",)])


def other_lines(source, names, lines):
    told = {row[0]: row for row in lines}
    if told and source.random() < 0.5:
        field = source.choice(sorted(told))
        told[field] = (field, source.choice([told[field][1]] * 3 + names), source.choice((False, told[field][2])))
    elif source.random() < 0.7:
        told["z"] = ("z", source.choice(names), source.random() < 0.2)
    return tuple(told.values())


def other_members(source, names, name, members):
    told = list(members)
    # Members that stand behind it in the alphabet lead to no ring.
    further = [other for other in names if other not in told and (other not in "uvw" or other > name)]
    if further and source.random() < 0.6:
        told.insert(source.randint(0, len(told)), source.choice(further))
    else:
        source.shuffle(told)
    return tuple(told)


def road(forms, reading):
    told = []
    while forms[reading[0]][0] in ("either", "tagged"):
        told.append(reading[1])
        if forms[reading[0]][0] == "tagged":
            break
        reading = reading[2]
    return tuple(told)


def road_places(forms, name, told):
    numbers = []
    for member in told:
        form = forms[name]
        numbers.append([word for word, _ in form[2]].index(member) if form[0] == "tagged" else form[1].index(member))
        name = member
    return numbers


def fillings(forms, known, pool):
    """All records with the known fields, and further ones with documents of the pool."""
    further = [field for field in names_of_fields(forms) if field not in known]
    # What stands in a field that no line names is not looked at by any kind.
    pools = [[None] if field == "other" else pool for field in further]
    for row in itertools.product(*[[()] + [(document,) for document in told] for told in pools]):
        yield {**known, **{field: told[0] for field, told in zip(further, row) if told}}


def roads(forms, kind, known, pool):
    """A dict from all roads to the sets of the fields that all of their fillings have."""
    told = {}
    for document in fillings(forms, known, pool):
        reading = first(forms, kind, document)
        if reading is not None:
            further = set(document) - set(known)
            told[road(forms, reading)] = told.get(road(forms, reading), further) & further
    return told


def done(forms, change):
    """The forms with a change done, None if it cannot be done."""
    form = forms.get(change[1])
    if form is None:
        return None
    if change[0] == "close" and form[:2] == ("record", True):
        return {**forms, change[1]: ("record", False, form[2])}
    if change[0] == "want" and form[0] == "record" and [row for row in form[2] if row[0] == change[2] and not row[2]]:
        return {**forms, change[1]: form[:2] + (tuple(row[:2] + (row[2] or row[0] == change[2],) for row in form[2]),)}
    if change[0] == "ahead" and form[0] == "either" and change[2] in form[1][1:]:
        return {**forms, change[1]: ("either", tuple(sorted(form[1], key=lambda member: member != change[2])))}
    if change[0] == "drop" and form[0] == "either" and change[2] in form[1] and len(form[1]) > 2:
        return {**forms, change[1]: ("either", tuple(member for member in form[1] if member != change[2]))}
    return None


def all_changes(forms):
    """All changes that can be done."""
    told = []
    for name, form in forms.items():
        told.append(("close", name))
        if form[0] == "record":
            told += [("want", name, row[0]) for row in form[2]]
        if form[0] == "either":
            told += [(word, name, member) for word in ("ahead", "drop") for member in form[1]]
    return sorted(change for change in told if done(forms, change) is not None)


def choices(forms, offers):
    """Rows (price, changes, forms) of all choices, in sequence."""
    told = []
    for many in range(len(offers) + 1):
        for rows in itertools.combinations(offers, many):
            now = forms
            for change, _ in rows:
                now = now and done(now, change)
            if now:
                told.append((sum(price for _, price in rows), tuple(change for change, _ in rows), now))
    return sorted(told, key=lambda row: row[:2])


def shows_repaired(forms, offers, value, shown):
    """shown(forms, value): whether a value shows that the kind is so ("so"), that it is not ("not"), or nothing."""
    rows = choices(forms, offers)
    if is_tuple(value, 2) and same(value[0], "none"):
        at, reasons = len(rows), value[1]
    elif is_tuple(value, 5) and same(value[0], "choice"):
        found = [at for at, row in enumerate(rows) if same(row[:2], value[1:3])]
        if not found or shown(rows[found[0]][2], value[3]) != "so":
            return False
        at, reasons = found[0], value[4]
    else:
        return False
    if not is_tuple(reasons, at) or not all(is_tuple(row, 2) for row in reasons):
        return False
    return all(same(told[0], row[1]) and shown(row[2], told[1]) == "not" for told, row in zip(reasons, rows))


# Values with one thing otherwise.

ODD = [None, True, False, 0, 1, 2, -1, "", "a", "any", "written", "x", "p", (), [], {}, (0,), ("a",), {"x": 1}]


def places(value, at=()):
    """The ways that lead to all parts of a value."""
    told = [at]
    if type(value) in (tuple, list):
        for number, part in enumerate(value):
            told += places(part, at + (number,))
    if type(value) is dict:
        for key, part in value.items():
            told += places(part, at + (key,))
    return told


def part_at(value, at):
    for step in at:
        value = value[step]
    return value


def changed(value, at, part):
    """The value with another part at this place."""
    if not at:
        return part
    inner = changed(value[at[0]], at[1:], part)
    if type(value) is dict:
        return {key: inner if key == at[0] else old for key, old in value.items()}
    return type(value)(inner if number == at[0] else old for number, old in enumerate(value))


def otherwise(source, value):
    """A value with one thing otherwise."""
    ways = places(value)
    at = source.choice(ways)
    part = part_at(value, at)
    choice = source.random()
    if type(part) in (tuple, list) and choice < 0.6:
        return changed(value, at, other_row(source, part))
    if type(part) is bool and choice < 0.5:
        return changed(value, at, int(part))
    if type(part) is int and choice < 0.5:
        return changed(value, at, bool(part) if part in (0, 1) else part + 1)
    if type(part) is dict and part and choice < 0.5:
        gone = source.choice(sorted(part))
        return changed(value, at, {key: inner for key, inner in part.items() if key != gone})
    if choice < 0.8:
        return changed(value, at, part_at(value, source.choice(ways)))
    return changed(value, at, source.choice(ODD))


def other_row(source, part):
    """A tuple or list with one thing otherwise in it as a row."""
    row = list(part)
    choice = source.randrange(5)
    if choice == 0:
        return row if type(part) is tuple else tuple(row)
    if choice == 1 and row:
        del row[source.randrange(len(row))]
    elif choice == 2 and row:
        row.insert(source.randrange(len(row) + 1), source.choice(row))
    elif choice == 3 and len(row) > 1:
        at = source.randrange(len(row) - 1)
        row[at], row[at + 1] = row[at + 1], row[at]
    else:
        row.insert(source.randrange(len(row) + 1), source.choice(ODD))
    return type(part)(row)
