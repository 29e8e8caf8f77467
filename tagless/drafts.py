"""Drafts: records of which some fields are known, and others may still come."""

from tagless.asked import check_document, check_kind
from tagless.books import forms_of
from tagless.documents import copied, is_name, same
from tagless.errors import BadDraft, BadField, BadRoad, Clash, NoField
from tagless.fillings import all_roads, fields_told, road_numbers
from tagless.groups import all_groups


class Draft:
    """Known fields of a record that is to be read by a kind of a book."""

    def __init__(self, book, kind):
        check_kind(book, kind)
        self._book = book
        self._kind = kind
        self._rows = {}

    @property
    def book(self):
        """The book by which it is to be read."""
        return self._book

    @property
    def kind(self):
        """The name of the kind."""
        return self._kind

    @property
    def known(self):
        """The ascending tuple of the known fields."""
        return tuple(sorted(self._rows))

    @property
    def document(self):
        """A new record of the known fields."""
        return copied(self._rows)

    def __setitem__(self, field, document):
        if not is_name(field):
            raise BadField(field)
        check_document(document)
        self._rows[field] = copied(document)

    def __getitem__(self, field):
        check_field(self._rows, field)
        return copied(self._rows[field])

    def __iter__(self):
        raise TypeError("the known fields of a draft are in known")

    def __contains__(self, value):
        return isinstance(value, str) and value in self._rows

    def __len__(self):
        return len(self._rows)

    def __eq__(self, other):
        if not isinstance(other, Draft):
            return False
        return self._book == other._book and self._kind == other._kind and same(self._rows, other._rows)

    def __ior__(self, other):
        if not isinstance(other, Draft):
            return NotImplemented
        further = other.document
        for field in sorted(further):
            if field in self._rows and not same(self._rows[field], further[field]):
                raise Clash(field)
        for field in further:
            self._rows[field] = further[field]
        return self

    def take(self, field):
        """The field is not known any more."""
        check_field(self._rows, field)
        del self._rows[field]

    def is_part_of(self, other):
        """Whether each known field is known in another draft, with the same document."""
        if not isinstance(other, Draft):
            raise BadDraft(other)
        fields = [field for field in self._rows if field in other._rows]
        return len(fields) == len(self._rows) and all([same(self._rows[field], other._rows[field]) for field in fields])

    def roads(self):
        """The tuple of the roads of the first readings of all fillings, in sequence."""
        forms = forms_of(self._book)
        told = all_roads(all_groups(forms, False), self._kind, self._rows)
        return tuple(sorted(told, key=lambda road: road_numbers(forms, self._kind, road)))

    def sure(self):
        """The only road, None if there are none or several."""
        told = self.roads()
        return told[0] if len(told) == 1 else None

    def wants(self, road):
        """The ascending tuple of the fields, not known, that each filling by this road has."""
        groups = all_groups(forms_of(self._book), False)
        told = all_roads(groups, self._kind, self._rows)
        if road not in list(told):
            raise BadRoad(road)
        return fields_told(groups, told[road])


def check_field(rows, field):
    """Raises NoField with what is no known field."""
    if not isinstance(field, str) or field not in rows:
        raise NoField(field)
