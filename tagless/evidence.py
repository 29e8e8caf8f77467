"""What single and reads_back tell in common: kinds all round a kind, and the pairs of their eithers."""

from tagless.least import least_made
from tagless.pairs import closed_with, is_closed
from tagless.recipes import least_with, member_pairs, whole_pair


def kinds_below(form):
    """The kinds that parts of documents of a form can be read by."""
    if form[0] == "list":
        return [] if form[3] == 0 else [form[1]]
    if form[0] == "either":
        return list(form[1])
    if form[0] in ("record", "tagged"):
        return [row[1] for row in form[2]]
    return []


def kinds_round(forms, kind, empties):
    """The names of the kind and of all that its documents can be read by, ascending, but for empty ones."""
    found = {}
    waiting = [kind]
    while waiting:
        name = waiting.pop()
        if name not in found and name not in empties:
            found[name] = True
            waiting.extend(kinds_below(forms[name]))
    return tuple(sorted(found))


def are_all_round(forms, kind, names, pairs):
    """Whether any value is a tuple of names all round a kind, beside these pairs."""
    if not isinstance(names, tuple) or not all([isinstance(name, str) and name in forms for name in names]):
        return False
    if list(names) != sorted(set(names)):
        return False
    asked = [kind]
    for name in names:
        asked.extend(kinds_below(forms[name]))
    return all([name in names or whole_pair(name) in pairs for name in asked])


def pairs_of_eithers(forms, names, how):
    """The pairs of each two members of the eithers among these kinds."""
    rows = []
    for name in names:
        if forms[name][0] == "either":
            rows.extend(member_pairs(forms[name][1], how))
    return rows


def split_or_apart(forms, kind, how):
    """("split", document), a least one that is split by the kind, or ("apart", names, pairs) if there is none."""
    tables = (forms,)
    key = ("split", kind, how)
    sizes, best = least_with(tables, [key] + [whole_pair(name) for name in forms])
    if key in sizes:
        return ("split", least_made(sizes, best, key))
    empties = [name for name in forms if whole_pair(name) not in sizes]
    names = kinds_round(forms, kind, empties)
    roots = pairs_of_eithers(forms, names, how) + [whole_pair(name) for name in empties]
    return ("apart", names, closed_with(tables, sizes, roots))


def shows_apart(forms, kind, how, names, pairs):
    """Whether any names and pairs show that no document is split by the kind."""
    if not is_closed((forms,), pairs) or not are_all_round(forms, kind, names, pairs):
        return False
    return all([pair in pairs for pair in pairs_of_eithers(forms, names, how)])
