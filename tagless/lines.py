"""Lines: rows of stations that pass a document on one behind the other."""

from tagless.asked import check_document, check_kind
from tagless.books import forms_of
from tagless.errors import NoReading
from tagless.firsts import first_readings
from tagless.writing import document_of


class Joined:
    """The stations of a line that is made of two others; it stands in the place of a kind."""

    def __init__(self, rows):
        self.rows = rows


class Line:
    """Stations, each a book and a kind of it; a line never changes."""

    def __init__(self, book, kind):
        if isinstance(kind, Joined):
            self._rows = kind.rows
        else:
            check_kind(book, kind)
            self._rows = ((book, kind),)

    @property
    def stations(self):
        """The tuple of (book, kind)."""
        return self._rows

    def __len__(self):
        return len(self._rows)

    def __eq__(self, other):
        return isinstance(other, Line) and self._rows == other._rows

    def __rshift__(self, other):
        if not isinstance(other, Line):
            return NotImplemented
        return Line(self._rows[0][0], Joined(self._rows + other._rows))

    def __rrshift__(self, other):
        return passed_along(self._rows, other)

    def __call__(self, document):
        return passed_along(self._rows, document)

    def lost(self, document):
        """For each station the ascending tuple of the paths of what falls there."""
        return tuple([fallen(forms, reading, came) for forms, reading, came in steps_along(self._rows, document)])


def steps_along(stations, document):
    """For each station its forms, the first reading there, and the document that came."""
    check_document(document)
    rows = []
    came = document
    for book, kind in stations:
        forms = forms_of(book)
        firsts = first_readings(forms, came)
        if kind not in firsts:
            raise NoReading(came)
        rows.append((forms, firsts[kind], came))
        came = document_of(forms, firsts[kind])
    return rows


def passed_along(stations, document):
    """What the last station passes on."""
    forms, reading, _ = steps_along(stations, document)[-1]
    return document_of(forms, reading)


def fallen(forms, reading, document):
    """The ascending tuple of the paths of the extras of a document by a reading."""
    paths = []
    rows = [(reading, document, (), "")]
    while rows:
        told, part, path, tag = rows.pop()
        form = forms[told[0]]
        if form[0] == "list":
            rows.extend([(inner, part[at], path + (at,), "") for at, inner in enumerate(told[1])])
        elif form[0] == "record":
            rows.extend([(inner, part[field], path + (field,), "") for field, inner in told[1]])
            known = [field for field, _ in told[1]] + [tag]
            paths.extend([path + (field,) for field in part if field not in known])
        elif form[0] == "either":
            rows.append((told[2], part, path, ""))
        elif form[0] == "tagged":
            # The tag is no extra, though the record of the line has no line for it.
            rows.append((told[2], part, path, form[1]))
    return tuple(sorted(paths))
