"""The errors of the package: all stand directly below TaglessError."""


class TaglessError(ValueError):
    """What the package raises; it keeps the very value it was created with."""

    def __init__(self, value):
        self.value = value


class NoKind(TaglessError):
    """What is no name of a kind of the book."""


class NoDocument(TaglessError):
    """What is no document."""


class BadBook(TaglessError):
    """The number of a line that cannot stand in a book."""


class Unnamed(TaglessError):
    """The number of a line that names a kind which cannot be meant."""


class Ring(TaglessError):
    """The number of the line of an either that leads to itself."""


class BadForms(TaglessError):
    """Forms of which there is no book."""


class Clash(TaglessError):
    """The first name that two sides have with unlike contents."""


class NoReading(TaglessError):
    """A document that is not read."""


class BadReading(TaglessError):
    """What is no reading."""


class BadSide(TaglessError):
    """What is no side."""


class TooLarge(TaglessError):
    """The number of parts that a told document may have."""


class NotEither(TaglessError):
    """A kind that is no either."""


class BadOrder(TaglessError):
    """What is no sequence of the members."""


class NoOrder(TaglessError):
    """The name of an either that has no safe sequence."""


class TooMany(TaglessError):
    """How many lots or ways may be told."""


class BadMember(TaglessError):
    """What cannot become a member."""


class BadPlace(TaglessError):
    """What is no place for a member."""


class BadField(TaglessError):
    """What is no name of a field."""


class NoField(TaglessError):
    """A field that is not known."""


class BadDraft(TaglessError):
    """What is no draft."""


class BadRoad(TaglessError):
    """What is none of the roads."""


class BadChanges(TaglessError):
    """The number of a change that cannot be done."""


class BadOffers(TaglessError):
    """What are no offers."""


class BadWish(TaglessError):
    """What is no wish."""


class BadEdition(TaglessError):
    """What is no edition."""


class BadTruth(TaglessError):
    """What is neither True nor False."""


class Broken(TaglessError):
    """The number of a document that would be read otherwise."""


class NotKept(TaglessError):
    """A reading that the newer edition does not keep."""


class NoNumber(TaglessError):
    """What is no number of a document on the shelf."""


class Turned(TaglessError):
    """The number of a document that would be read otherwise when passed on."""


class NothingToUndo(TaglessError):
    """There is no deed to take back."""


class NothingToRedo(TaglessError):
    """There is no deed to do again."""


class NoTrial(TaglessError):
    """There is no trial going on."""


class BadText(TaglessError):
    """What is no text of a document."""


class BadJournal(TaglessError):
    """The number of a line that cannot stand in a journal."""


class BadLine(TaglessError):
    """What is no line that a desk answers."""
