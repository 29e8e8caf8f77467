"""Breaks: readings by the kinds of an elder book that a newer one has not, and why it has all others.

Tables is the pair of the forms of the elder book and those of the newer one. A reading that is
not kept has somewhere a part that is read otherwise while what it is made of is read as it was;
so it is enough to ask for each kind by itself.
"""

from tagless.firsts import fits_plain
from tagless.least import asked_by, least_by
from tagless.pairs import SAMPLES
from tagless.recipes import recipes_with, whole_pair
from tagless.sides import ALL, pair_of, side_of
from tagless.trees import line_of

OUTER = ("list", "record", "either", "tagged")


def written_pair(name):
    """The pair of the written forms of a kind of the elder book with all documents."""
    return pair_of(side_of(name, "written"), ALL)


def tried_pair(member, other):
    """The pair of the written forms of an elder kind with all documents that fit a newer one."""
    return pair_of(side_of(member, "written"), (1, other, "any", ""))


def are_of_one_sort(form, newer):
    """Whether two forms are both of lists, of records, of eithers, of tagged kinds, or both plain."""
    return form[0] == newer[0] or form[0] not in OUTER and newer[0] not in OUTER


def outside(form, newer):
    """Documents of a plain kind that do not fit a newer one: one at least if there is any."""
    if form[0] == "int":
        ends = [form[1], form[2]]
    elif form[0] == "word":
        ends = list(form[1])
    else:
        ends = [SAMPLES[form[0]]]
    return [end for end in ends if not fits_plain(newer, end)]


def are_ahead(newer, member):
    """The members that stand ahead of one of them in a newer either."""
    return list(newer[1][:newer[1].index(member)])


def is_length(form, many):
    """Whether a list kind has a length."""
    return form[2] <= many and (form[3] is None or many <= form[3])


def list_breaks(form, newer):
    """The recipes for lists that break by themselves."""
    lengths = [form[2]] if newer[3] is None else [form[2], newer[3] + 1]
    broken = [many for many in lengths if is_length(form, many) and not is_length(newer, many)]
    if form[1] != newer[1]:
        broken.extend([many for many in [max(form[2], 1)] if is_length(form, many)])
    return [("list", (written_pair(form[1]),) * many) for many in broken]


def lines_by_field(form):
    """A dict from the fields that have a line to (kind, wanted)."""
    return {field: (kind, wanted) for field, kind, wanted in form[2]}


def record_breaks(form, newer):
    """The recipes for records that break by themselves."""
    mine, yours = lines_by_field(form), lines_by_field(newer)
    wanted = {field: written_pair(kind) for field, kind, is_wanted in form[2] if is_wanted}
    rows = [wanted for field in yours if yours[field][1] and field not in wanted]
    for field in mine:
        if field not in yours or yours[field][0] != mine[field][0]:
            rows.append({**wanted, field: written_pair(mine[field][0])})
    return [("record", tuple(row.items()), ()) for row in rows]


def tagged_breaks(name, form, newer):
    """The recipes for records with a tag that break by themselves."""
    if form[1] != newer[1]:
        return [("same", written_pair(name))]
    lines = [line for line in form[2] if line_of(newer, line[0]) != line]
    return [("same", pair_of((0, name, "written", word), ALL)) for word, _ in lines]


def either_breaks(form, newer):
    """Rows (member, recipe) for what breaks as it is read by this member."""
    rows = []
    for member in form[1]:
        if member in newer[1]:
            rows.extend([(member, ("same", tried_pair(member, other))) for other in are_ahead(newer, member)])
        else:
            rows.append((member, ("same", written_pair(member))))
    return rows


def own_breaks(tables, name):
    """Rows (member, recipe) for what breaks as it is read by this kind; the member is empty but for eithers."""
    form = tables[0][name]
    newer = tables[1].get(name)
    if newer is None or not are_of_one_sort(form, newer):
        return [("", ("same", written_pair(name)))]
    if form[0] == "either":
        return either_breaks(form, newer)
    if form[0] == "list":
        recipes = list_breaks(form, newer)
    elif form[0] == "record":
        recipes = record_breaks(form, newer)
    elif form[0] == "tagged":
        recipes = tagged_breaks(name, form, newer)
    else:
        recipes = [("leaf", end) for end in outside(form, newer)]
    return [("", recipe) for recipe in recipes]


def least_broken(tables):
    """Sizes and recipes as least_by tells them, of pairs and of keys (kind, member): what breaks so."""
    broken = {}
    for name in tables[0]:
        for member, recipe in own_breaks(tables, name):
            broken.setdefault((name, member), []).append(recipe)
    roots = [whole_pair(name) for name in tables[0]]
    for key in broken:
        for recipe in broken[key]:
            roots.extend(asked_by(recipe))
    recipes = recipes_with(tables, roots)
    recipes.update(broken)
    return least_by(recipes)


def breaking_keys(tables, sizes):
    """The keys (kind, member) of what breaks."""
    keys = []
    for name in tables[0]:
        members = {member: True for member, _ in own_breaks(tables, name)}
        keys.extend([(name, member) for member in members if (name, member) in sizes])
    return keys
