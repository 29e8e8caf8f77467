"""Kinds: what the names of a book stand for."""

from tagless.documents import is_document
from tagless.errors import NoDocument, NoReading
from tagless.firsts import first_readings


class Kind:
    """A kind of a book, made by kind_of; it is asked, and never changed."""

    def __init__(self, book, name, forms):
        self._book = book
        self._name = name
        self._forms = dict(forms)

    @property
    def name(self):
        """Its name in the book."""
        return self._name

    @property
    def book(self):
        """The book that it is a kind of."""
        return self._book

    @property
    def form(self):
        """Its form, a tuple that begins with the word of its line."""
        return self._forms[self._name]

    def __eq__(self, other):
        return isinstance(other, Kind) and self._book == other._book and self._name == other._name

    def __contains__(self, value):
        return is_document(value) and self._name in first_readings(self._forms, value)

    def __call__(self, document):
        if not is_document(document):
            raise NoDocument(document)
        firsts = first_readings(self._forms, document)
        if self._name not in firsts:
            raise NoReading(document)
        return firsts[self._name]


class Plain(Kind):
    """A kind without parts: none, bool, text, int or word."""


class Listed(Kind):
    """A kind of lists."""

    @property
    def item(self):
        """The name of the kind of the members of its lists."""
        return self.form[1]


class Fielded(Kind):
    """A kind of records whose lines name fields."""

    @property
    def fields(self):
        """The fields that have a line, ascending; of a tagged kind that of the tag."""
        if self.form[0] == "tagged":
            return (self.form[1],)
        return tuple(sorted([line[0] for line in self.form[2]]))


class Membered(Kind):
    """A union: a kind that is read by one of several members."""

    @property
    def members(self):
        """The names of its members in their sequence; of a tagged kind the words."""
        if self.form[0] == "tagged":
            return tuple([line[0] for line in self.form[2]])
        return self.form[1]


class Record(Fielded):
    """A kind of records."""


class Either(Membered):
    """A union whose members are tried one behind the other."""


class Tagged(Fielded, Membered):
    """A union whose member is named by a field."""


def kind_of(book, name, forms):
    """The kind of this name; forms is a dict from the names of all kinds of the book to their forms."""
    sort = forms[name][0]
    if sort == "list":
        return Listed(book, name, forms)
    if sort == "record":
        return Record(book, name, forms)
    if sort == "either":
        return Either(book, name, forms)
    if sort == "tagged":
        return Tagged(book, name, forms)
    return Plain(book, name, forms)
