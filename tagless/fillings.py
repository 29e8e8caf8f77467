"""Fillings: what a record of which some fields are known can be filled up to, and how it is read then."""

from tagless.blocks import field_number, record_mark, record_start
from tagless.firsts import first_readings
from tagless.plans import sign_of


def known_number(plan, field, document):
    """The number of a known document in a field."""
    mark = tuple([(name, (), True) for name in sorted(first_readings(plan.table, document))])
    return field_number(plan, field, mark, sign_of(plan, document))


def filled_ends(groups, documents):
    """A dict from the numbers of all records with these documents in their fields to bits.

    The bits tell which further names of fields, by their places among those that are asked for,
    all of the records with this number have.
    """
    plan = groups.plan
    start = record_start(plan)
    for field, document in documents.items():
        start = start & known_number(plan, field, document)
    ends = {start: 0}
    for at, choices in enumerate(groups.choices):
        if plan.asked[at] not in documents:
            ends = further_ends(ends, choices, 1 << at)
    return ends


def further_ends(ends, choices, bit):
    """The ends with one field more, which is there by all choices that are made of something."""
    further = {}
    for whole, bits in ends.items():
        for number, (_, made) in choices.items():
            told = (bits | bit) if made else bits
            joined = whole & number
            # What fits nothing so far will not fit anything.
            if joined != 0:
                further[joined] = further.get(joined, told) & told
    return further


def road_in(forms, kind, names):
    """The members that the first reading by a kind takes where these names fit, and the kind at their end."""
    road = []
    name = kind
    while forms[name][0] == "either":
        name = [member for member in forms[name][1] if member in names][0]
        road.append(name)
    return tuple(road), name


def roads_filled(groups, kind, documents):
    """Rows (road but for a word at its end, kind at its end, bits) for all fillings by a kind."""
    plan = groups.plan
    rows = []
    for whole, bits in filled_ends(groups, documents).items():
        names = [row[0] for row in record_mark(plan, whole)]
        if kind in names:
            road, last = road_in(plan.table, kind, names)
            rows.append((road, last, bits))
    return rows


def tag_of(forms, name):
    """The field of the tag of a kind, empty of one that has none."""
    return forms[name][1] if forms[name][0] == "tagged" else ""


def all_roads(groups, kind, documents):
    """A dict from the roads of all fillings to the bits of the further fields that all by this road have."""
    forms = groups.plan.table
    told = {}
    unknown = {}
    for road, last, bits in roads_filled(groups, kind, documents):
        tag = tag_of(forms, last)
        if tag == "":
            told[road] = told.get(road, bits) & bits
        elif tag in documents:
            road = road + (documents[tag],)
            told[road] = told.get(road, bits) & bits
        else:
            unknown.setdefault(tag, {}).update({word: True for word, _ in forms[last][2]})
    # Records with unlike words can have one number, so each word is looked at by itself.
    for tag in unknown:
        for word in unknown[tag]:
            for road, last, bits in roads_filled(groups, kind, {**documents, tag: word}):
                if tag_of(forms, last) == tag:
                    bits = bits | (1 << groups.plan.asked.index(tag))
                    told[road + (word,)] = told.get(road + (word,), bits) & bits
    return told


def road_numbers(forms, kind, road):
    """The places of the members of a road, by which roads are compared."""
    numbers = []
    name = kind
    for member in road:
        if forms[name][0] == "tagged":
            numbers.append([word for word, _ in forms[name][2]].index(member))
        else:
            numbers.append(forms[name][1].index(member))
            name = member
    return numbers


def fields_told(groups, bits):
    """The ascending tuple of the names of fields that bits tell, of those that the book names."""
    named = groups.plan.asked[:-1]
    return tuple(sorted([field for at, field in enumerate(named) if (bits >> at) & 1 == 1]))
