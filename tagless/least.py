"""Least documents: how large they are, and one of each.

A recipe tells how a document is made of others, which are told by their keys:
- ("leaf", document); ("same", key): the very document of the key;
- ("list", keys); ("record", rows (field, key), rows (field, word)).
"""

from tagless.errors import TooLarge

LARGEST = 500


def asked_by(recipe):
    """The keys of the documents of which a recipe makes one."""
    if recipe[0] == "same":
        return [recipe[1]]
    if recipe[0] == "list":
        return list(recipe[1])
    if recipe[0] == "record":
        return [key for _, key in recipe[1]]
    return []


def size_by(recipe, sizes):
    """The size of what a recipe makes, from the sizes of what it asks for; None if something is not there."""
    asked = asked_by(recipe)
    if not all([key in sizes for key in asked]):
        return None
    whole = sum([sizes[key] for key in asked])
    if recipe[0] == "same":
        return whole
    return whole + 1 + (len(recipe[2]) if recipe[0] == "record" else 0)


def asking(recipes):
    """A dict from each key to the keys by whose recipes it is asked for."""
    told = {key: [] for key in recipes}
    for key in recipes:
        for recipe in recipes[key]:
            for asked in asked_by(recipe):
                told[asked].append(key)
    return told


def least_by(recipes):
    """From a dict from keys to all their recipes: the least sizes, and a recipe for each of them, by the keys.

    Keys of which no document can be made are in neither.
    """
    sizes = {}
    best = {}
    askers = asking(recipes)
    waiting = list(recipes)
    while waiting:
        again = {}
        for key in waiting:
            for recipe in recipes[key]:
                many = size_by(recipe, sizes)
                if many is not None and (key not in sizes or many < sizes[key]):
                    sizes[key] = many
                    best[key] = recipe
                    for asker in askers[key]:
                        again[asker] = True
        waiting = list(again)
    return sizes, best


def last_recipe(best, key):
    """The recipe by which the document of a key is made, behind all that ask for the very same document."""
    recipe = best[key]
    while recipe[0] == "same":
        recipe = best[recipe[1]]
    return recipe


def made_by(recipe, inner):
    """What a recipe makes of these documents."""
    if recipe[0] == "list":
        return inner
    if recipe[0] == "record":
        whole = dict(zip([field for field, _ in recipe[1]], inner))
        for field, word in recipe[2]:
            whole[field] = word
        return whole
    return recipe[1]


def made(best, key):
    """A new document of a key, by the recipes of the keys."""
    rows = [last_recipe(best, key)]
    at = 0
    while at < len(rows):
        rows.extend([last_recipe(best, asked) for asked in asked_by(rows[at])])
        at += 1
    told = [None for _ in rows]
    # What a recipe asks for stands in the sequence of the recipes, so what the last one asks for ends the list.
    end = len(rows)
    for at in reversed(range(len(rows))):
        start = end - len(asked_by(rows[at]))
        told[at] = made_by(rows[at], told[start:end])
        end = start
    return told[0]


def least_made(sizes, best, key):
    """A least document of a key; TooLarge if it has too many parts to be told."""
    if sizes[key] > LARGEST:
        raise TooLarge(LARGEST)
    return made(best, key)
