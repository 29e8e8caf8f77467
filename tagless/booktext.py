"""The lines of a book, read into forms and written from forms."""

from tagless.documents import is_name
from tagless.errors import BadBook, Ring, Unnamed

DEEPER = "  "

DIGITS = "0123456789"

MOST_DIGITS = 9

GREATEST = 999999999

LONGEST = 4


def number_of(word):
    """The number that a word tells, decimal without leading zeros; None if it tells none."""
    digits = word[1:] if word.startswith("-") else word
    if not 1 <= len(digits) <= MOST_DIGITS or not all([digit in DIGITS for digit in digits]):
        return None
    if digits.startswith("0") and word != "0":
        return None
    return int(word)


def are_names(words):
    """Whether all words are names, no two alike."""
    return all([is_name(word) for word in words]) and len(set(words)) == len(words)


def int_form(words):
    """The form of an int by the words behind its name, or None."""
    if len(words) != 2:
        return None
    low, high = number_of(words[0]), number_of(words[1])
    if low is None or high is None or low > high:
        return None
    return ("int", low, high)


def list_form(words):
    """The form of a list by the words behind its name, or None."""
    if len(words) != 3 or not is_name(words[0]):
        return None
    low = number_of(words[1])
    if low is None or not 0 <= low <= LONGEST:
        return None
    if words[2] == "*":
        return ("list", words[0], low, None)
    high = number_of(words[2])
    if high is None or not low <= high <= LONGEST:
        return None
    return ("list", words[0], low, high)


def names_form(sort, words, least):
    """The form of a word or an either by the words behind its name, or None."""
    return (sort, tuple(words)) if len(words) >= least and are_names(words) else None


def head_form(line):
    """The form of a line that stands below none, that of a record or a tagged kind still without lines, or None."""
    words = line.split(" ")
    sort, behind = words[0], words[2:]
    if len(words) < 2 or not is_name(words[1]):
        return None
    if sort in ("none", "bool", "text"):
        return (sort,) if not behind else None
    if sort == "int":
        return int_form(behind)
    if sort == "list":
        return list_form(behind)
    if sort == "word":
        return names_form(sort, behind, 1)
    if sort == "either":
        return names_form(sort, behind, 2)
    if sort == "record":
        return (sort, behind == ["open"], ()) if behind in ([], ["open"]) else None
    if sort == "tagged":
        return (sort, behind[0], ()) if len(behind) == 1 and is_name(behind[0]) else None
    return None


def inner_row(sort, line):
    """What a line below a record or a tagged kind tells, (FIELD, K, wanted) or (WORD, K), or None."""
    words = line[len(DEEPER):].split(" ")
    if len(words) == 3 and sort == "record" and words[2] == "?":
        row = (words[0], words[1], False)
    elif len(words) == 2:
        row = (words[0], words[1], True) if sort == "record" else (words[0], words[1])
    else:
        return None
    return row if is_name(words[0]) and is_name(words[1]) else None


def whole_form(form, number, below):
    """The form, which stands in the line of this number, with the lines below it."""
    if form[0] not in ("record", "tagged"):
        if below:
            raise BadBook(number + 1)
        return form
    rows = []
    for at, line in enumerate(below):
        row = inner_row(form[0], line)
        if row is None or row[0] in [other[0] for other in rows]:
            raise BadBook(number + 1 + at)
        rows.append(row)
    if form[0] == "tagged" and not rows:
        raise BadBook(number + 1)
    return (form[0], form[1], tuple(rows))


def lines_below(lines, at):
    """The lines that belong to the one at this place."""
    end = at + 1
    while end < len(lines) and lines[end].startswith(DEEPER):
        end += 1
    return lines[at + 1:end]


def rows_of(lines):
    """The rows (number of the line, name, form) of the lines of a book."""
    rows = []
    names = {}
    at = 0
    while at < len(lines):
        form = head_form(lines[at])
        if form is None or lines[at].split(" ")[1] in names:
            raise BadBook(at + 1)
        name = lines[at].split(" ")[1]
        below = lines_below(lines, at)
        rows.append((at + 1, name, whole_form(form, at + 1, below)))
        names[name] = True
        at = at + 1 + len(below)
    return rows


def kinds_named(form):
    """The kinds that the lines of a form name, as rows (how far below its first line, name)."""
    if form[0] == "list":
        return [(0, form[1])]
    if form[0] == "either":
        return [(0, member) for member in form[1]]
    if form[0] in ("record", "tagged"):
        return [(1 + at, row[1]) for at, row in enumerate(form[2])]
    return []


def can_be_meant(forms, form, name):
    """Whether a form may name this kind."""
    if name not in forms:
        return False
    if form[0] != "tagged":
        return True
    meant = forms[name]
    return meant[0] == "record" and form[1] not in [row[0] for row in meant[2]]


def check_names(rows, forms):
    """Raises Unnamed with the first line that names a kind which cannot be meant."""
    for number, _, form in rows:
        for below, name in kinds_named(form):
            if not can_be_meant(forms, form, name):
                raise Unnamed(number + below)


def leads_to_itself(forms, name):
    """Whether an either leads to itself by members that are eithers."""
    reached = [name]
    at = 0
    while at < len(reached):
        for member in forms[reached[at]][1]:
            if member == name:
                return True
            if forms[member][0] == "either" and member not in reached:
                reached.append(member)
        at += 1
    return False


def check_rings(rows, forms):
    """Raises Ring with the first line of an either that leads to itself."""
    for number, name, form in rows:
        if form[0] == "either" and leads_to_itself(forms, name):
            raise Ring(number)


def forms_in(text):
    """A dict from the names of the kinds in a text, any value, to their forms, in sequence."""
    if not isinstance(text, str):
        raise BadBook(0)
    rows = rows_of(text.split("\n"))
    forms = {name: form for _, name, form in rows}
    check_names(rows, forms)
    check_rings(rows, forms)
    return forms


def lines_of(name, form):
    """The lines of a kind with this form."""
    if form[0] == "record":
        head = f"record {name} open" if form[1] else f"record {name}"
        return [head] + [f"  {row[0]} {row[1]}" + ("" if row[2] else " ?") for row in form[2]]
    if form[0] == "tagged":
        return [f"tagged {name} {form[1]}"] + [f"  {row[0]} {row[1]}" for row in form[2]]
    if form[0] in ("word", "either"):
        return [" ".join([form[0], name] + list(form[1]))]
    behind = ["*" if word is None else str(word) for word in form[1:]]
    return [" ".join([form[0], name] + behind)]


def text_of(rows):
    """The text of a book with these rows (name, form)."""
    lines = []
    for name, form in rows:
        lines.extend(lines_of(name, form))
    return "\n".join(lines)
