"""One reading or two: whether some document has two readings by a kind."""

from tagless.asked import forms_with
from tagless.documents import is_document
from tagless.evidence import shows_apart, split_or_apart
from tagless.trees import Tree, readings_counted


def single(book, kind):
    """("one", names, pairs), which show that each document has one reading, or ("two", document), a least one."""
    told = split_or_apart(forms_with(book, kind), kind, "any")
    if told[0] == "split":
        return ("two", told[1])
    return ("one", told[1], told[2])


def shows_single(book, kind, value):
    """Whether any value is right as an answer of single; its document may be of any size."""
    forms = forms_with(book, kind)
    if not isinstance(value, tuple) or len(value) not in (2, 3):
        return False
    if len(value) == 3:
        return value[0] == "one" and shows_apart(forms, kind, "any", value[1], value[2])
    if value[0] != "two" or not is_document(value[1]):
        return False
    return readings_counted(Tree(forms, value[1]))[0].get(kind, 0) > 1
