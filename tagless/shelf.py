"""A shelf: documents, and editions of a book by all of which they are read as when they came."""

from tagless.books import Book, forms_of
from tagless.deeds import book_line, deed_line, same_deeds, told_deed
from tagless.documents import copied, is_document, same, sort_of
from tagless.errors import BadEdition, BadTruth, Broken, NoNumber, NotKept, NothingToRedo, NothingToUndo, NoTrial
from tagless.errors import Turned
from tagless.firsts import first_readings
from tagless.growth import keeps
from tagless.passing import passed
from tagless.readings import decoded
from tagless.trials import Trial
from tagless.writing import same_readings


class Stock:
    """What is on a shelf at one time; it never changes.

    Rows is a dict from numbers to (kind, document, reading, number of the edition).
    """

    def __init__(self, laid, rows, coming):
        self.laid = laid
        self.rows = rows
        self.coming = coming


def with_row(stock, number, row):
    """The stock with another row of a document that is there."""
    return Stock(stock.laid, {**stock.rows, number: row}, stock.coming)


def row_at(stock, number):
    """The row of a document; NoNumber of what is no number of one."""
    if sort_of(number) != "int" or number not in stock.rows:
        raise NoNumber(number)
    return stock.rows[number]


def is_read_so(book, kind, document, reading):
    """Whether a document has this first reading by the kind."""
    firsts = first_readings(forms_of(book), document)
    return kind in firsts and same_readings(firsts[kind], reading)


class Shelf:
    """Documents and editions; each deed can be taken back and done again."""

    def __init__(self, book):
        self._start = Stock((book,), {}, 0)
        # Rows (deed, stock behind it) of what was done, and of what was taken back, the last one at the end.
        self._done = ()
        self._undone = ()
        self._frame = None

    def _now(self):
        """The stock that is on it now."""
        return self._done[-1][1] if self._done else self._start

    def _do(self, deed, stock):
        """A deed, by which this stock is on it; what was taken back cannot be done again."""
        self._done = self._done + ((deed, stock),)
        self._undone = ()

    def put(self, kind, document):
        """A copy of a document comes; its number."""
        stock = self._now()
        reading = decoded(stock.laid[-1], kind, document)
        kept = copied(document)
        row = (kind, kept, reading, len(stock.laid) - 1)
        self._do(("put", kind, kept), Stock(stock.laid, {**stock.rows, stock.coming: row}, stock.coming + 1))
        return stock.coming

    def lay(self, newer, *, whole=False):
        """A book becomes the newest edition; its number."""
        if not isinstance(newer, Book):
            raise BadEdition(newer)
        if not isinstance(whole, bool):
            raise BadTruth(whole)
        stock = self._now()
        for number in sorted(stock.rows):
            kind, document, reading, _ = stock.rows[number]
            if not is_read_so(newer, kind, document, reading):
                raise Broken(number)
        if whole:
            told = keeps(stock.laid[-1], newer)
            if told[0] == "breaks":
                raise NotKept(told[1])
        self._do(("lay", newer.text, whole), Stock(stock.laid + (newer,), stock.rows, stock.coming))
        return len(stock.laid)

    def pass_on(self, number):
        """The document is now what the newest edition passes it on as; whether this is another one."""
        stock = self._now()
        kind, document, reading, edition = row_at(stock, number)
        further = passed(stock.laid[-1], kind, document)
        if not is_read_so(stock.laid[-1], kind, further, reading):
            raise Turned(number)
        self._do(("pass_on", number), with_row(stock, number, (kind, further, reading, edition)))
        return not same(document, further)

    def take(self, number):
        """The document is on the shelf no more."""
        stock = self._now()
        row_at(stock, number)
        rows = {other: stock.rows[other] for other in stock.rows if other != number}
        self._do(("take", number), Stock(stock.laid, rows, stock.coming))

    def document_at(self, number):
        """A copy of the document with this number."""
        return copied(row_at(self._now(), number)[1])

    def kind_at(self, number):
        """The kind by which the document came."""
        return row_at(self._now(), number)[0]

    def reading_at(self, number):
        """The first reading of the document when it came."""
        return row_at(self._now(), number)[2]

    def edition_at(self, number):
        """The number of the edition with which the document came."""
        return row_at(self._now(), number)[3]

    @property
    def numbers(self):
        """The ascending tuple of the numbers of the documents on the shelf."""
        return tuple(sorted(self._now().rows))

    @property
    def editions(self):
        """The tuple of the Books that were laid, the first one ahead."""
        return self._now().laid

    @property
    def deeds(self):
        """The tuple of the deeds done."""
        return tuple([told_deed(deed) for deed, _ in self._done])

    @property
    def journal(self):
        """The tuple of the lines that tell the first book and the deeds."""
        first = "shelf " + book_line(self._start.laid[0].text)
        return tuple([first] + [deed_line(deed) for deed, _ in self._done])

    def __contains__(self, value):
        return is_document(value) and any([same(value, row[1]) for row in self._now().rows.values()])

    def __len__(self):
        return len(self._now().rows)

    def __eq__(self, other):
        if not isinstance(other, Shelf):
            return False
        if self._start.laid[0].text != other._start.laid[0].text or len(self._done) != len(other._done):
            return False
        return all([same_deeds(one[0], two[0]) for one, two in zip(self._done, other._done)])

    def undo(self):
        """Takes the last deed back."""
        if not self._done:
            raise NothingToUndo(None)
        self._undone = self._undone + self._done[-1:]
        self._done = self._done[:-1]

    def redo(self):
        """Does the deed again that was taken back last."""
        if not self._undone:
            raise NothingToRedo(None)
        self._done = self._done + self._undone[-1:]
        self._undone = self._undone[:-1]

    def trial(self):
        """What a block is entered with, behind which all is as ahead of it unless it is kept."""
        return Trial(self)

    def keep(self):
        """What the innermost trial does is kept."""
        if self._frame is None:
            raise NoTrial(None)
        self._frame.kept = True

    def tried(self, look, *, keep=False):
        """What look, called with the shelf in a trial, returns; kept if keep is True."""
        with self.trial() as held:
            told = look(held)
            if keep is True:
                held.keep()
        return told

    def copy(self):
        """An independent shelf that is in all things like this one, outside of all trials."""
        made = Shelf(self._start.laid[0])
        made._done = self._done
        made._undone = self._undone
        return made
