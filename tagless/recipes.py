"""Recipes for documents of both sides of a pair, and for documents that can be read in two ways.

A key is a pair, or ("split", name, how): the documents that fit the kind of this name and have,
somewhere, a part that is read by an either, that fits one member and is, by a later member, a
document ("any") or a written form ("written").
"""

from tagless.least import asked_by, least_by
from tagless.pairs import step_of
from tagless.sides import ALL, pair_of, side_of


def whole_pair(name):
    """The pair of all documents that fit a kind with all documents: the kind is empty if it is apart."""
    return pair_of(side_of(name, "any"), ALL)


def pair_recipes(tables, pair):
    """All recipes for documents of both sides of a pair."""
    step = step_of(tables, pair)
    if step[0] == "apart":
        return []
    if step[0] == "parts":
        return [("same", inner) for inner in step[1][0]]
    if step[0] == "list":
        return [("list", (step[1],) * step[2])]
    return [step]


def member_pairs(members, how):
    """The pairs of each member ("any") with each later one (how)."""
    rows = []
    for at, member in enumerate(members):
        for later in members[at + 1:]:
            rows.append(pair_of(side_of(member, "any"), side_of(later, how)))
    return rows


def split_records(lines, how, words):
    """The recipes for records with these lines and words, one field of which is split."""
    recipes = []
    for field, kind, _ in lines:
        rows = [(row[0], whole_pair(row[1])) for row in lines if row[2] and row[0] != field]
        recipes.append(("record", tuple([(field, ("split", kind, how))] + rows), words))
    return recipes


def split_recipes(forms, name, how):
    """All recipes for documents that are split by a kind."""
    form = forms[name]
    if form[0] == "either":
        rows = [("same", pair) for pair in member_pairs(form[1], how)]
        return rows + [("same", ("split", member, how)) for member in form[1]]
    if form[0] == "list" and form[3] != 0:
        rest = (whole_pair(form[1]),) * (max(form[2], 1) - 1)
        return [("list", (("split", form[1], how),) + rest)]
    if form[0] == "record":
        return split_records(form[2], how, ())
    if form[0] == "tagged":
        recipes = []
        for word, kind in form[2]:
            recipes.extend(split_records(forms[kind][2], how, ((form[1], word),)))
        return recipes
    return []


def recipes_with(tables, roots):
    """A dict from these keys, and all that are asked for by their recipes and so on, to all recipes of each."""
    recipes = {}
    waiting = list(roots)
    while waiting:
        key = waiting.pop()
        if key not in recipes:
            if key[0] == "split":
                recipes[key] = split_recipes(tables[0], key[1], key[2])
            else:
                recipes[key] = pair_recipes(tables, key)
            for recipe in recipes[key]:
                waiting.extend(asked_by(recipe))
    return recipes


def least_with(tables, roots):
    """The least sizes of these keys and of all they hang on, and a recipe for each, as least_by tells them."""
    return least_by(recipes_with(tables, roots))
