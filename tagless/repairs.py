"""Repairs: changes of a book by which nothing is lost, and what they cost."""

from tagless.asked import check_kind
from tagless.back import reads_back, shows_back
from tagless.books import Book, forms_of
from tagless.documents import sort_of
from tagless.errors import BadChanges, BadOffers, BadWish
from tagless.passing import shows_steady, steady
from tagless.single import shows_single, single

MOST_OFFERS = 6

HIGHEST_PRICE = 9

WISHES = ("one", "back", "steady")


def form_changed(form, change):
    """The form of a kind with a change done, None if it cannot be done."""
    word = change[0]
    if len(change) == 2:
        return ("record", False, form[2]) if word == "close" and form[0] == "record" and form[1] else None
    named = change[2]
    if word == "want" and form[0] == "record" and (named, False) in [(row[0], row[2]) for row in form[2]]:
        return ("record", form[1], tuple([(row[0], row[1], row[2] or row[0] == named) for row in form[2]]))
    if form[0] == "either" and named in form[1]:
        rest = tuple([member for member in form[1] if member != named])
        if word == "ahead" and form[1][0] != named:
            return ("either", (named,) + rest)
        if word == "drop" and len(rest) > 1:
            return ("either", rest)
    return None


def forms_changed(forms, change):
    """The forms with a change, any value, done; None if it is no change or cannot be done."""
    if not isinstance(change, tuple) or len(change) not in (2, 3):
        return None
    if not all([isinstance(word, str) for word in change]) or change[1] not in forms:
        return None
    told = form_changed(forms[change[1]], change)
    return None if told is None else {**forms, change[1]: told}


def first_wrong(forms, changes):
    """The number of the first change that cannot be done, 0 if all can; and the forms with those ahead of it done."""
    for at, change in enumerate(changes):
        further = forms_changed(forms, change)
        if further is None:
            return at + 1, forms
        forms = further
    return 0, forms


def changed(book, changes):
    """The book with a tuple of changes done one behind the other."""
    if not isinstance(changes, tuple):
        raise BadChanges(0)
    number, forms = first_wrong(forms_of(book), changes)
    if number > 0:
        raise BadChanges(number)
    return Book.of(tuple(forms.items()))


def is_offer(forms, value):
    """Whether any value is (change, price), the change one that can be done by itself."""
    if not isinstance(value, tuple) or len(value) != 2 or forms_changed(forms, value[0]) is None:
        return False
    return sort_of(value[1]) == "int" and 1 <= value[1] <= HIGHEST_PRICE


def check_offers(forms, offers):
    """Raises BadOffers with what are no offers."""
    if not isinstance(offers, tuple) or not 1 <= len(offers) <= MOST_OFFERS:
        raise BadOffers(offers)
    if not all([is_offer(forms, offer) for offer in offers]):
        raise BadOffers(offers)
    changes = [change for change, _ in offers]
    if changes != sorted(set(changes)):
        raise BadOffers(offers)


def choices_of(forms, offers):
    """The list of (price, changes) for all choices, in sequence."""
    told = [(0, ())]
    for change, price in offers:
        told = told + [(whole + price, changes + (change,)) for whole, changes in told]
    return sorted([row for row in told if first_wrong(forms, row[1])[0] == 0])


def asked_choices(book, kind, offers, wish):
    """The choices in sequence, of what repaired is asked for."""
    check_kind(book, kind)
    forms = forms_of(book)
    check_offers(forms, offers)
    if wish not in WISHES:
        raise BadWish(wish)
    return choices_of(forms, offers)


def told_of(book, kind, wish):
    """What the function of a wish tells."""
    if wish == "one":
        return single(book, kind)
    return reads_back(book, kind) if wish == "back" else steady(book, kind)


def shows_told(book, kind, wish, value):
    """Whether any value is right as an answer of the function of a wish."""
    if wish == "one":
        return shows_single(book, kind, value)
    return shows_back(book, kind, value) if wish == "back" else shows_steady(book, kind, value)


def repaired(book, kind, offers, *, wish="back"):
    """("choice", price, changes, evidence, reasons) of the first choice that will do, or ("none", reasons)."""
    reasons = []
    for price, changes in asked_choices(book, kind, offers, wish):
        told = told_of(changed(book, changes), kind, wish)
        if told[0] == wish:
            return ("choice", price, changes, told, tuple(reasons))
        reasons.append((changes, told))
    return ("none", tuple(reasons))


def shows_answer(book, kind, wish, changes, value):
    """What any value shows of the kind with these changes: that it is "so" or is "not", or nothing at all ("")."""
    if not shows_told(changed(book, changes), kind, wish, value):
        return ""
    return "so" if value[0] == wish else "not"


def are_reasons(book, kind, wish, choices, value):
    """Whether any value is a tuple of (changes, what shows that they will not do) for just these choices."""
    if not isinstance(value, tuple) or len(value) != len(choices):
        return False
    for row, choice in zip(value, choices):
        if not isinstance(row, tuple) or len(row) != 2 or row[0] != choice[1]:
            return False
        if shows_answer(book, kind, wish, choice[1], row[1]) != "not":
            return False
    return True


def shows_repaired(book, kind, offers, value, *, wish="back"):
    """Whether any value is right as an answer of repaired, with any evidence and reasons that are shown."""
    choices = asked_choices(book, kind, offers, wish)
    if not isinstance(value, tuple):
        return False
    if len(value) == 2:
        return value[0] == "none" and are_reasons(book, kind, wish, choices, value[1])
    if len(value) != 5 or value[0] != "choice" or sort_of(value[1]) != "int" or value[1:3] not in choices:
        return False
    if not are_reasons(book, kind, wish, choices[:choices.index(value[1:3])], value[4]):
        return False
    return shows_answer(book, kind, wish, value[2], value[3]) == "so"
