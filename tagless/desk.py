"""A desk: a shelf that is told deeds, and asked, line by line."""

from tagless.back import reads_back
from tagless.books import forms_of
from tagless.deeds import deed_in, read_words
from tagless.errors import BadLine
from tagless.growth import places
from tagless.journals import done_on, read_journal
from tagless.lots import lot
from tagless.orders import orders
from tagless.passing import passed, steady
from tagless.readings import fits, how_many, written
from tagless.single import single
from tagless.texts import show_document, text_of
from tagless.writing import inner_readings

DEEDS = ("put", "lay", "pass_on", "take")

# What the words of a question have to be behind the first one.
ASKED = {
    "show": ("number",),
    "read": ("number",),
    "fits": ("name", "document"),
    "many": ("name", "document"),
    "pass": ("name", "document"),
    "single": ("name",),
    "back": ("name",),
    "steady": ("name",),
    "orders": ("name",),
    "lot": ("document",),
    "places": ("name", "name"),
}


class Desk:
    """A shelf by its journal, and lines that are said to it."""

    def __init__(self, lines):
        self._held = read_journal(lines)

    @property
    def shelf(self):
        """The shelf of the desk."""
        return self._held

    def say(self, line):
        """The answer to a line, which may be a deed."""
        word, told = line_read(line)
        if word in DEEDS:
            return deed_answer(word, done_on(self._held, word, told))
        answer = ANSWERS[word]
        return answer(self._held, told)


def yes_or_no(truth):
    """The answer to what is so or not."""
    return "yes" if truth else "no"


def words_or_none(words):
    """The answer that is made of words, with blanks between."""
    return " ".join(words) if words else "-"


def newest(shelf):
    """The newest edition of a shelf."""
    return shelf.editions[-1]


def deed_answer(word, told):
    """The answer to a deed, by what it returns."""
    if word == "take":
        return "ok"
    return yes_or_no(told) if word == "pass_on" else str(told)


def outer_reading_text(form, reading, inner):
    """How a reading is told, from how those in it are told."""
    if form[0] == "list":
        return f"{reading[0]}[" + ", ".join(inner) + "]"
    if form[0] == "record":
        rows = [f"{row[0]}: {told}" for row, told in zip(reading[1], inner)]
        return f"{reading[0]}" + "{" + ", ".join(rows) + "}"
    if form[0] in ("either", "tagged"):
        return f"{reading[0]}.{reading[1]}({inner[0]})"
    return f"{reading[0]}={text_of(reading[1])}"


def reading_text(forms, reading):
    """How a reading is told."""
    rows = [reading]
    at = 0
    while at < len(rows):
        rows.extend([row for _, row in inner_readings(forms, rows[at])])
        at += 1
    told = ["" for _ in rows]
    # The readings within one stand in its sequence, so those within the last one end the list.
    end = len(rows)
    for at in reversed(range(len(rows))):
        start = end - len(inner_readings(forms, rows[at]))
        told[at] = outer_reading_text(forms[rows[at][0]], rows[at], told[start:end])
        end = start
    return told[0]


def undo_answer(shelf, _):
    """The answer to undo, behind which no words stand."""
    shelf.undo()
    return "ok"


def redo_answer(shelf, _):
    """The answer to redo, behind which no words stand."""
    shelf.redo()
    return "ok"


def show_answer(shelf, told):
    """The text of a document on the shelf."""
    return show_document(shelf.document_at(told[0]))


def read_answer(shelf, told):
    """How the reading of a document on the shelf is told."""
    return reading_text(forms_of(newest(shelf)), shelf.reading_at(told[0]))


def fits_answer(shelf, told):
    """Whether a document fits a kind."""
    return yes_or_no(fits(newest(shelf), told[0], told[1]))


def many_answer(shelf, told):
    """How many readings a document has by a kind."""
    return str(how_many(newest(shelf), told[0], told[1]))


def pass_answer(shelf, told):
    """The text of what a document is passed on as by a kind."""
    return show_document(passed(newest(shelf), told[0], told[1]))


def single_answer(shelf, told):
    """Whether a kind has one reading, or a document with two."""
    found = single(newest(shelf), told[0])
    return "yes" if found[0] == "one" else "no " + show_document(found[1])


def back_answer(shelf, told):
    """Whether a kind is read back, or the written form of a reading that is lost."""
    found = reads_back(newest(shelf), told[0])
    return "yes" if found[0] == "back" else "no " + show_document(written(newest(shelf), found[1]))


def steady_answer(shelf, told):
    """Whether a kind is steady, or a document that turns."""
    found = steady(newest(shelf), told[0])
    return "yes" if found[0] == "steady" else "no " + show_document(found[1])


def orders_answer(shelf, told):
    """The members of an either in the first safe sequence."""
    found = orders(newest(shelf), told[0])
    if found[0] == "ring":
        return "ring"
    members = newest(shelf)[told[0]].members
    return " ".join([members[number] for number in found[1]])


def lot_answer(shelf, told):
    """The names of the kinds that a document fits."""
    return words_or_none(lot(newest(shelf), told[0]))


def places_answer(shelf, told):
    """The places at which a member can be put."""
    return words_or_none([str(place) for place in places(newest(shelf), told[0], told[1])])


ANSWERS = {
    "undo": undo_answer,
    "redo": redo_answer,
    "show": show_answer,
    "read": read_answer,
    "fits": fits_answer,
    "many": many_answer,
    "pass": pass_answer,
    "single": single_answer,
    "back": back_answer,
    "steady": steady_answer,
    "orders": orders_answer,
    "lot": lot_answer,
    "places": places_answer,
}


def line_read(line):
    """The first word of a line and a list of what the others tell; BadLine of what is no line."""
    if not isinstance(line, str):
        raise BadLine(line)
    if line in ("undo", "redo"):
        return line, []
    word, told = deed_in(line)
    if word in ASKED:
        told = read_words(line[len(word) + 1:], ASKED[word])
    if not told:
        raise BadLine(line)
    return word, told
