"""What every function asks of its kind and its document."""

from tagless.books import forms_of
from tagless.documents import is_document
from tagless.errors import NoDocument, NoKind, NotEither


def check_kind(book, kind):
    """Raises NoKind with what is no name of a kind of the book."""
    if kind not in book:
        raise NoKind(kind)


def check_document(document):
    """Raises NoDocument with what is no document."""
    if not is_document(document):
        raise NoDocument(document)


def forms_with(book, kind):
    """The forms of a book that is asked for this kind."""
    check_kind(book, kind)
    return forms_of(book)


def forms_asked(book, kind, document):
    """The forms of a book that is asked for this kind and this document."""
    check_kind(book, kind)
    check_document(document)
    return forms_of(book)


def members_asked(book, kind):
    """The members of the either of a book that is asked for."""
    check_kind(book, kind)
    form = book[kind].form
    if form[0] != "either":
        raise NotEither(kind)
    return form[1]
