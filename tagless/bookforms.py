"""Whether any value has the shape of forms, so that lines can be written for it."""

from tagless.booktext import GREATEST
from tagless.documents import is_name, sort_of


def is_number(value):
    """Whether any value is an integer that a line can tell."""
    return sort_of(value) == "int" and -GREATEST <= value <= GREATEST


def is_truth(value):
    """Whether any value is True or False."""
    return sort_of(value) == "bool"


def is_number_or_none(value):
    """Whether any value is None or an integer that a line can tell."""
    return value is None or is_number(value)


def are_rows(value, checks):
    """Whether any value is a tuple of tuples whose places pass these checks."""
    if not isinstance(value, tuple):
        return False
    return all([are_passed(row, checks) for row in value])


def are_passed(row, checks):
    """Whether any value is a tuple of as many places as there are checks, each of which passes its own."""
    if not isinstance(row, tuple) or len(row) != len(checks):
        return False
    return all([passes_check(place, check) for place, check in zip(row, checks)])


def passes_check(value, check):
    """Whether any value passes the check of this word."""
    if check == "name":
        return is_name(value)
    if check == "truth":
        return is_truth(value)
    if check == "number":
        return is_number(value)
    if check == "number or none":
        return is_number_or_none(value)
    if check == "names":
        return isinstance(value, tuple) and all([is_name(place) for place in value])
    if check == "fields":
        return are_rows(value, ("name", "name", "truth"))
    return are_rows(value, ("name", "name"))


CHECKS = {
    "none": (),
    "bool": (),
    "text": (),
    "int": ("number", "number"),
    "word": ("names",),
    "list": ("name", "number", "number or none"),
    "record": ("truth", "fields"),
    "either": ("names",),
    "tagged": ("name", "words"),
}


def is_form(value):
    """Whether any value has the shape of a form; what its names and numbers may be is not looked at."""
    if not isinstance(value, tuple) or not value or not isinstance(value[0], str) or value[0] not in CHECKS:
        return False
    return are_passed(value[1:], CHECKS[value[0]])


def are_forms(value):
    """Whether any value is a tuple of rows (name, form)."""
    if not isinstance(value, tuple):
        return False
    return all([isinstance(row, tuple) and len(row) == 2 and is_name(row[0]) and is_form(row[1]) for row in value])
