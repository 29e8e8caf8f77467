"""Marks: what is told apart of documents, and how it comes from what is told of their parts.

The mark of a document is the ascending tuple of rows (name, lot, stands) for each kind that it
fits: the lot of what it is passed on as by this kind, and whether this is read as the document
is. If passing on is not asked for, each lot in it is () and each stands is True.

The sign of a string tells for which lines of tagged kinds it is the word: rows (name of the
tagged kind, first kind with the form of K), ascending; that of all else is (). Two documents with
the same mark and sign can stand for one another in lists and records.
"""

from tagless.firsts import eithers_in_turn, fits_plain

# Lists that are longer than any number in a line of a list kind are alike.
LONG = 5


class Row:
    """A record kind, or the lines of a tagged kind with the same records, as what fits it is asked for by fields."""

    def __init__(self, own, record, form, tag):
        self.own = own
        self.record = record
        self.lines = {field: (inner, wanted) for field, inner, wanted in form[2]}
        self.lets = form[1]
        self.tag = tag

    def is_met(self, field, lot, sign):
        """Whether a document with this lot and sign, None and () if there is none, is right for a field."""
        if field == self.tag:
            return (self.own, self.record) in sign
        if field not in self.lines:
            return lot is None or self.lets
        inner, wanted = self.lines[field]
        return not wanted if lot is None else inner in lot


class Plan:
    """All of a book that marks hang on."""

    def __init__(self, forms, passing):
        self.table = forms
        self.passing = passing
        self.eithers = eithers_in_turn(forms)
        self.listed = [name for name in forms if forms[name][0] == "list"]
        self.rows = rows_of(forms)
        self.asked = field_names(forms)


def first_like(forms, record):
    """The first kind with the same form as a record: one stands for all that are alike."""
    return [name for name in forms if forms[name] == forms[record]][0]


def rows_of(forms):
    """The Rows of the record kinds and of the tagged kinds."""
    rows = []
    for name, form in forms.items():
        if form[0] == "record":
            rows.append(Row(name, "", form, ""))
        if form[0] == "tagged":
            for kind in sorted({first_like(forms, line[1]) for line in form[2]}):
                rows.append(Row(name, kind, forms[kind], form[1]))
    return rows


def fresh_name(names):
    """A name of a field that is none of these."""
    told = "a"
    while told in names:
        told = told[:-1] + "b" if told.endswith("a") else told + "a"
    return told


def field_names(forms):
    """The names of fields that documents are told apart by: tags, then those of records, then one that is none."""
    tags = {form[1]: True for form in forms.values() if form[0] == "tagged"}
    known = dict(tags)
    for form in forms.values():
        if form[0] == "record":
            for line in form[2]:
                known[line[0]] = True
    return list(known) + [fresh_name(known)]


def whole_lot(plan, names):
    """The lot that has just these kinds, and the eithers that they lead to."""
    told = {name: True for name in names}
    for name in plan.eithers:
        if any([member in told for member in plan.table[name][1]]):
            told[name] = True
    return tuple(sorted(told))


def passed_lot(plan, names):
    """The lot of what is passed on, () if passing on is not asked for."""
    return whole_lot(plan, names) if plan.passing else ()


def whole_mark(plan, told):
    """The mark, from a dict from all kinds but eithers that are fitted to their rows (lot, stands)."""
    rows = dict(told)
    for name in plan.eithers:
        fitting = [member for member in plan.table[name][1] if member in rows]
        if fitting:
            lot, stands = rows[fitting[0]]
            # The first member that fits what is passed on has to be the one that passed it on.
            again = [member for member in plan.table[name][1] if member in lot]
            rows[name] = (lot, stands and (not plan.passing or again[0] == fitting[0]))
    return tuple([(name, rows[name][0], rows[name][1]) for name in sorted(rows)])


def leaf_mark(plan, leaf):
    """The mark of a document that is no list and no record."""
    fitting = [name for name, form in plan.table.items() if is_plain(form) and fits_plain(form, leaf)]
    lot = passed_lot(plan, fitting)
    return whole_mark(plan, {name: (lot, True) for name in fitting})


def is_plain(form):
    """Whether a form is that of a plain kind."""
    return form[0] in ("none", "bool", "text", "int", "word")


def sign_of(plan, leaf):
    """The sign of a document that is no list and no record."""
    told = []
    for name, form in plan.table.items():
        if form[0] == "tagged":
            told.extend([(name, first_like(plan.table, kind)) for word, kind in form[2] if word == leaf])
    return tuple(sorted(told))


def leaves_of(forms):
    """Documents without parts, one at least for each mark and sign."""
    numbers = [0]
    words = {"": True}
    for form in forms.values():
        if form[0] == "int":
            numbers.extend([form[1] - 1, form[1], form[2] + 1])
        if form[0] == "word":
            words.update({word: True for word in form[1]})
        if form[0] == "tagged":
            words.update({row[0]: True for row in form[2]})
    return [None, True] + sorted(set(numbers)) + list(words)
