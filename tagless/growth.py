"""Growth: whether a newer book reads all that an elder one writes as the elder one reads it."""

from tagless.asked import check_kind, members_asked
from tagless.books import Book, forms_of
from tagless.booktext import leads_to_itself
from tagless.breaks import are_ahead, are_of_one_sort, breaking_keys, is_length, least_broken, lines_by_field
from tagless.breaks import outside, tried_pair
from tagless.documents import sort_of
from tagless.errors import BadMember, BadPlace
from tagless.firsts import closed_forms, first_readings
from tagless.least import least_made
from tagless.pairs import closed_with, is_closed
from tagless.recipes import whole_pair
from tagless.trees import Tree, line_of, reading_by
from tagless.writing import document_of, is_any_reading, same_readings


def broken_reading(tables, key, document):
    """The reading by the elder book that has this written form and breaks by this key."""
    name, member = key
    # By closed records nothing is left out: the document is the written form of the reading.
    tree = Tree(closed_forms(tables[0]), document)
    if member == "":
        return reading_by(tree, name, [])[0]
    return (name, member, reading_by(tree, member, [])[0])


def pairs_asked(tables, sizes):
    """The pairs that have to be in the evidence that nothing breaks."""
    empties = [whole_pair(name) for name in tables[0] if whole_pair(name) not in sizes]
    pairs = list(empties)
    for name, form in tables[0].items():
        if form[0] == "either":
            for member in [member for member in form[1] if whole_pair(member) not in empties]:
                pairs.extend([tried_pair(member, other) for other in are_ahead(tables[1][name], member)])
    return pairs


def keeps(elder, newer):
    """("keeps", pairs), closed, or ("breaks", reading), a least one that the newer book does not read so."""
    tables = (forms_of(elder), forms_of(newer))
    sizes, best = least_broken(tables)
    keys = breaking_keys(tables, sizes)
    if not keys:
        return ("keeps", closed_with(tables, sizes, pairs_asked(tables, sizes)))
    key = min(keys, key=lambda row: sizes[row])
    return ("breaks", broken_reading(tables, key, least_made(sizes, best, key)))


def list_kept(form, newer, known):
    """Whether the lists of a kind are kept beside known pairs, if their members are."""
    _, item, low, high = form
    if whole_pair(item) in known:
        return is_length(newer, 0)
    if not is_length(newer, low):
        return False
    if newer[3] is not None and (high is None or high > newer[3]):
        return False
    return high == 0 or item == newer[1]


def record_kept(form, newer, known):
    """Whether the records of a kind are kept beside known pairs, if what is in their fields is."""
    mine, yours = lines_by_field(form), lines_by_field(newer)
    for field, line in mine.items():
        if whole_pair(line[0]) not in known and (field not in yours or yours[field][0] != line[0]):
            return False
    return all([field in mine and mine[field][1] for field in yours if yours[field][1]])


def either_kept(form, newer, known):
    """Whether what an either reads is kept beside known pairs, if what its members read is."""
    for member in form[1]:
        if whole_pair(member) not in known:
            if member not in newer[1]:
                return False
            if not all([tried_pair(member, other) in known for other in are_ahead(newer, member)]):
                return False
    return True


def tagged_kept(form, newer, known):
    """Whether what a tagged kind reads is kept beside known pairs, if what its records read is."""
    if form[1] != newer[1]:
        return False
    return all([line_of(newer, line[0]) == line for line in form[2] if whole_pair(line[1]) not in known])


def kind_kept(tables, name, known):
    """Whether the readings by a kind are kept beside known pairs, if those that they are made of are."""
    if whole_pair(name) in known:
        return True
    form = tables[0][name]
    newer = tables[1].get(name)
    if newer is None or not are_of_one_sort(form, newer):
        return False
    if form[0] == "list":
        return list_kept(form, newer, known)
    if form[0] == "record":
        return record_kept(form, newer, known)
    if form[0] == "either":
        return either_kept(form, newer, known)
    if form[0] == "tagged":
        return tagged_kept(form, newer, known)
    return not outside(form, newer)


def is_broken(tables, reading):
    """Whether the newer book does not read as this reading what the elder one writes for it."""
    firsts = first_readings(tables[1], document_of(tables[0], reading))
    return reading[0] not in firsts or not same_readings(firsts[reading[0]], reading)


def shows_keeps(elder, newer, value):
    """Whether any value is right as an answer of keeps; its reading may be of any size."""
    tables = (forms_of(elder), forms_of(newer))
    if not isinstance(value, tuple) or len(value) != 2:
        return False
    if value[0] == "breaks":
        return is_any_reading(tables[0], value[1]) and is_broken(tables, value[1])
    if value[0] != "keeps" or not is_closed(tables, value[1]):
        return False
    known = {pair: True for pair in value[1]}
    return all([kind_kept(tables, name, known) for name in tables[0]])


def grown_at(book, kind, member, place):
    """The book with this member at this place of the either."""
    rows = []
    for name, form in forms_of(book).items():
        if name == kind:
            form = ("either", form[1][:place] + (member,) + form[1][place:])
        rows.append((name, form))
    return Book.of(tuple(rows))


def members_beside(book, kind, member):
    """The members of an either; NoKind or BadMember with what cannot become one."""
    members = members_asked(book, kind)
    check_kind(book, member)
    forms = forms_of(book)
    forms[kind] = ("either", members + (member,))
    if member in members or leads_to_itself(forms, kind):
        raise BadMember(member)
    return members


def grown(book, kind, member, place):
    """The book whose either of this name has one member more at this place."""
    members = members_beside(book, kind, member)
    if sort_of(place) != "int" or not 0 <= place <= len(members):
        raise BadPlace(place)
    return grown_at(book, kind, member, place)


def places(book, kind, member):
    """The ascending tuple of the places at which the grown book keeps the book."""
    members = members_beside(book, kind, member)
    told = []
    for place in range(len(members) + 1):
        tables = (forms_of(book), forms_of(grown_at(book, kind, member, place)))
        sizes, _ = least_broken(tables)
        if not breaking_keys(tables, sizes):
            told.append(place)
    return tuple(told)
