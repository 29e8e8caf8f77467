"""Books: kinds by their names, from lines or from forms."""

from tagless.bookforms import are_forms
from tagless.booktext import forms_in, text_of
from tagless.errors import BadBook, BadForms, Clash, NoKind, Ring, Unnamed
from tagless.kinds import kind_of


class Book:
    """The kinds that the lines of a text tell; a book never changes."""

    def __init__(self, text):
        self._forms = forms_in(text)
        self._text = text

    @classmethod
    def of(cls, forms):
        """The book with these kinds, rows (name, form)."""
        if not are_forms(forms):
            raise BadForms(forms)
        try:
            return cls(text_of(forms))
        except (BadBook, Unnamed, Ring):
            raise BadForms(forms) from None

    @property
    def text(self):
        """Its lines, separated by line feeds."""
        return self._text

    @property
    def names(self):
        """The names of its kinds, in sequence."""
        return tuple(list(self._forms))

    def __getitem__(self, name):
        if not isinstance(name, str) or name not in self._forms:
            raise NoKind(name)
        return kind_of(self, name, self._forms)

    def __iter__(self):
        raise TypeError("the names of a book are in its names")

    def __contains__(self, value):
        return isinstance(value, str) and value in self._forms

    def __len__(self):
        return len(self._forms)

    def __eq__(self, other):
        return isinstance(other, Book) and self._text == other._text

    def __or__(self, other):
        if not isinstance(other, Book):
            return NotImplemented
        rows = list(self._forms.items())
        for name, form in other._forms.items():
            if name not in self._forms:
                rows.append((name, form))
            elif self._forms[name] != form:
                raise Clash(name)
        return Book(text_of(rows))


def forms_of(book):
    """A dict from the names of the kinds of a book to their forms, in sequence."""
    return {name: book[name].form for name in book.names}
