"""Read back: whether what is written for a reading is read as that reading."""

from tagless.asked import forms_with
from tagless.evidence import shows_apart, split_or_apart
from tagless.firsts import closed_forms, first_readings
from tagless.trees import Tree, next_turns, reading_by
from tagless.writing import document_of, is_any_reading, same_readings


def is_lost(forms, reading):
    """Whether a reading, written, is read otherwise by its kind."""
    firsts = first_readings(forms, document_of(forms, reading))
    return not same_readings(firsts[reading[0]], reading)


def lost_reading(forms, kind, document):
    """A reading of which the document is the written form, and which is lost; there has to be one."""
    # By closed records nothing is left out, so just the readings of which it is the written form are told.
    tree = Tree(closed_forms(forms), document)
    reading, taken = reading_by(tree, kind, [])
    while not is_lost(forms, reading):
        reading, taken = reading_by(tree, kind, next_turns(taken))
    return reading


def reads_back(book, kind):
    """("back", names, pairs), which show that each reading is read back, or ("lost", reading), a least one."""
    forms = forms_with(book, kind)
    told = split_or_apart(forms, kind, "written")
    if told[0] == "split":
        return ("lost", lost_reading(forms, kind, told[1]))
    return ("back", told[1], told[2])


def shows_back(book, kind, value):
    """Whether any value is right as an answer of reads_back; its reading may be of any size."""
    forms = forms_with(book, kind)
    if not isinstance(value, tuple) or len(value) not in (2, 3):
        return False
    if len(value) == 3:
        return value[0] == "back" and shows_apart(forms, kind, "written", value[1], value[2])
    if value[0] != "lost" or not is_any_reading(forms, value[1]) or value[1][0] != kind:
        return False
    return is_lost(forms, value[1])
