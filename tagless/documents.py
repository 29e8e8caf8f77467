"""Documents: what is one, which are the same, and how large one is."""

from tagless.errors import NoDocument

LETTERS = "abcdefghijklmnopqrstuvwxyz"

LONGEST_NAME = 8


def is_name(value):
    """Whether any value is a name: a string of 1 to 8 letters a to z."""
    if not isinstance(value, str) or not 1 <= len(value) <= LONGEST_NAME:
        return False
    return all([letter in LETTERS for letter in value])


def sort_of(value):
    """The sort of document that a value is by itself, its inner parts not looked at; None for no sort."""
    if value is None:
        return "none"
    # A bool is an int to Python, so it is asked for ahead of the integers.
    if isinstance(value, bool):
        return "bool"
    if isinstance(value, int):
        return "int"
    if isinstance(value, str):
        return "text"
    if isinstance(value, list):
        return "list"
    if isinstance(value, dict) and all([is_name(key) for key in value]):
        return "record"
    return None


def inner_parts(value):
    """A new list of the members of a list, or of the documents in a dict; empty for all else."""
    if isinstance(value, list):
        return list(value)
    if isinstance(value, dict):
        return list(value.values())
    return []


def parts_of(value):
    """All parts, the value itself first, each ahead of its inner parts, which stand side by side."""
    # A loop, not a recursion: what is nested deep shall not need many calls.
    parts = [value]
    at = 0
    while at < len(parts):
        parts.extend(inner_parts(parts[at]))
        at += 1
    return parts


def is_document(value):
    """Whether any value is a document."""
    return all([sort_of(part) is not None for part in parts_of(value)])


def copied(document):
    """A new document that is the same, which has no list and no dict in common with the document."""
    parts = parts_of(document)
    made = list(parts)
    # Inner parts stand in the sequence of what they are in, so those of the last part end the list.
    end = len(parts)
    for at in reversed(range(len(parts))):
        start = end - len(inner_parts(parts[at]))
        if isinstance(parts[at], list):
            made[at] = made[start:end]
        elif isinstance(parts[at], dict):
            made[at] = dict(zip(list(parts[at]), made[start:end]))
        end = start
    return made[0]


def alike(one, other):
    """Whether two documents are the same as far as it can be told without their inner parts."""
    sort = sort_of(one)
    if sort != sort_of(other):
        return False
    if sort == "list":
        return len(one) == len(other)
    if sort == "record":
        return sorted(one) == sorted(other)
    return one == other


def paired_parts(one, other):
    """The pairs of inner parts of two documents that are alike."""
    if isinstance(one, list):
        return list(zip(one, other))
    if isinstance(one, dict):
        return [(one[field], other[field]) for field in one]
    return []


def same(one, other):
    """Whether two documents are the same: True is not 1, the sequence of fields does not count."""
    if not is_document(one):
        raise NoDocument(one)
    if not is_document(other):
        raise NoDocument(other)
    pairs = [(one, other)]
    while pairs:
        left, right = pairs.pop()
        if not alike(left, right):
            return False
        pairs.extend(paired_parts(left, right))
    return True


def size(document):
    """How many parts a document has, itself too; names are not counted."""
    if not is_document(document):
        raise NoDocument(document)
    return len(parts_of(document))
