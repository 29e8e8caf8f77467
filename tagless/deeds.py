"""Deeds of a shelf, and the lines that tell them.

Deeds are ("put", kind, document), ("lay", text, whole), ("pass_on", number), ("take", number).
"""

from tagless.books import Book
from tagless.booktext import number_of
from tagless.documents import copied, is_name, same
from tagless.errors import BadBook, Ring, Unnamed
from tagless.texts import documents_in, text_of

WHOLE = "whole "


def told_deed(deed):
    """A deed whose document is new and may be changed."""
    return ("put", deed[1], copied(deed[2])) if deed[0] == "put" else deed


def same_deeds(one, other):
    """Whether two deeds are the same."""
    if one[0] == "put" and other[0] == "put":
        return one[1] == other[1] and same(one[2], other[2])
    return one == other


def book_line(text):
    """The lines of a book joined to one."""
    return "".join([f"|{line}" for line in text.split("\n")])


def books_in(line):
    """The book whose lines are joined to this one, in a list of one; an empty list if there is none."""
    if not line.startswith("|") or "\n" in line:
        return []
    try:
        return [Book("\n".join(line[1:].split("|")))]
    except (BadBook, Unnamed, Ring):
        return []


def deed_line(deed):
    """The line that tells a deed."""
    if deed[0] == "put":
        return f"put {deed[1]} {text_of(deed[2])}"
    if deed[0] == "lay":
        return "lay " + (WHOLE if deed[2] else "") + book_line(deed[1])
    return f"{deed[0]} {deed[1]}"


def numbers_in(word):
    """The number of a document that a word tells, in a list of one; an empty list if it tells none."""
    number = number_of(word)
    return [] if number is None or number < 0 else [number]


def kinds_in(word):
    """The name that a word is, in a list of one; an empty list if it is none."""
    return [word] if is_name(word) else []


def read_word(word, sort):
    """What a word tells of this sort, in a list of one; an empty list if it tells nothing."""
    if sort == "number":
        return numbers_in(word)
    if sort == "document":
        return documents_in(word)
    return kinds_in(word)


def read_words(rest, sorts):
    """What the words of a rest of a line tell of these sorts, the last one up to its end; empty if they do not."""
    told = []
    for sort in sorts[:-1]:
        word, _, rest = rest.partition(" ")
        told.extend(read_word(word, sort))
    told.extend(read_word(rest, sorts[-1]))
    return told if len(told) == len(sorts) else []


def laid_in(rest):
    """The book of a line and whether it is laid whole; empty if there is none."""
    whole = rest.startswith(WHOLE)
    found = books_in(rest[len(WHOLE):] if whole else rest)
    return found + [whole] if found else []


def deed_in(line):
    """The word of a deed and a list of what it is done with, as a line tells it; the list is empty if it tells none."""
    word, _, rest = line.partition(" ")
    if word == "put":
        return word, read_words(rest, ("name", "document"))
    if word == "lay":
        return word, laid_in(rest)
    if word in ("pass_on", "take"):
        return word, read_words(rest, ("number",))
    return word, []
