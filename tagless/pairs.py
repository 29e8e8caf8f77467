"""Pairs of sides: what a document of both is made of, and why there is none.

A step tells of a pair
- ("parts", rows): one or both sides are unions; each row has the pairs with the parts of one of them;
- ("apart",): no document is of both, whatever its parts may be;
- ("leaf", document): this one is of both;
- ("list", pair, low): lists, the members of the pair, low or more of them, are of both;
- ("record", fields, words): records are of both with these fields, rows (field, pair), and words, rows (field, word).
"""

from tagless.firsts import fits_plain
from tagless.sides import ALL, fields_of_side, form_of_side, is_side, list_of_side, pair_of, parts_of_union
from tagless.sides import sort_of_side, word_fits

APART = ("apart",)

# What stands for the documents of each sort that are not told one by one.
SAMPLES = {"none": None, "bool": True, "text": ""}


def union_rows(tables, one, other):
    """The rows of the pairs with the parts of one side, then with those of the other one, if they are unions."""
    rows = []
    if sort_of_side(tables, one) == "union":
        rows.append(tuple([pair_of(part, other) for part in parts_of_union(tables, one)]))
    if sort_of_side(tables, other) == "union":
        rows.append(tuple([pair_of(one, part) for part in parts_of_union(tables, other)]))
    return rows


def samples_of(form):
    """Documents of a plain kind, one of which is in common with another plain kind if any document is."""
    if form[0] == "int":
        return [form[1]]
    if form[0] == "word":
        return list(form[1])
    return [SAMPLES[form[0]]]


def plain_step(forms):
    """The step of one or two sides of plain kinds, by their forms."""
    for form in forms:
        for sample in samples_of(form):
            if all([fits_plain(other, sample) for other in forms]):
                return ("leaf", sample)
    return APART


def list_step(tables, one, other):
    """The step of two sides of lists."""
    item, low, high = list_of_side(tables, one)
    other_item, other_low, other_high = list_of_side(tables, other)
    least = max(low, other_low)
    if high is not None and high < least or other_high is not None and other_high < least:
        return APART
    return ("list", pair_of(item, other_item), least)


def field_pair(mine, yours, field):
    """The pair of a field that the first ones want, with what the others have for it; None if they do not let it."""
    side = mine.lines[field][0]
    if field in yours.lines:
        return pair_of(side, yours.lines[field][0])
    return pair_of(side, ALL) if yours.lets else None


def tag_stands(tables, mine, yours):
    """Whether the others let the tag of the first ones."""
    if mine.tag == yours.tag:
        return mine.word == yours.word
    if mine.tag in yours.lines:
        return word_fits(tables, yours.lines[mine.tag][0], mine.word)
    return yours.lets


def record_step(tables, one, other):
    """The step of two sides of records."""
    first, second = fields_of_side(tables, one), fields_of_side(tables, other)
    pairs = {}
    words = {}
    for mine, yours in ((first, second), (second, first)):
        if mine.tag != "":
            if not tag_stands(tables, mine, yours):
                return APART
            words[mine.tag] = mine.word
        for field in [field for field in mine.lines if mine.lines[field][1] and field != yours.tag]:
            pair = field_pair(mine, yours, field)
            if pair is None:
                return APART
            pairs[field] = pair
    return ("record", tuple(sorted(pairs.items())), tuple(sorted(words.items())))


def step_of(tables, pair):
    """The step of a pair."""
    one, other = pair
    rows = union_rows(tables, one, other)
    if rows:
        return ("parts", rows)
    sorts = [sort_of_side(tables, side) for side in pair]
    if sorts == ["all", "all"]:
        return ("leaf", None)
    named = [sort for sort in sorts if sort != "all"]
    if all([sort == "list" for sort in named]):
        return list_step(tables, one, other)
    if all([sort == "record" for sort in named]):
        return record_step(tables, one, other)
    if "list" in named or "record" in named:
        return APART
    return plain_step([form_of_side(tables, side) for side in pair if side != ALL])


def reasons_of(step):
    """The tuples of pairs each of which, if all of its pairs are apart, shows that the pair of the step is."""
    if step[0] == "apart":
        return [()]
    if step[0] == "parts":
        return list(step[1])
    if step[0] == "list":
        return [(step[1],)] if step[2] > 0 else []
    if step[0] == "record":
        return [(pair,) for _, pair in step[1]]
    return []


def is_pair(tables, value):
    """Whether any value is a pair."""
    if not isinstance(value, tuple) or len(value) != 2 or not all([is_side(tables, side) for side in value]):
        return False
    return value[0] <= value[1]


def is_closed(tables, value):
    """Whether any value is a closed tuple of pairs."""
    if not isinstance(value, tuple) or not all([is_pair(tables, pair) for pair in value]):
        return False
    known = {pair: True for pair in value}
    if list(value) != sorted(known):
        return False
    for pair in value:
        if not any([all([inner in known for inner in row]) for row in reasons_of(step_of(tables, pair))]):
            return False
    return True


def closed_with(tables, sizes, roots):
    """A closed tuple with these pairs, none of which meets; sizes has all pairs that meet and may be asked for."""
    found = {}
    waiting = list(roots)
    while waiting:
        pair = waiting.pop()
        if pair not in found:
            found[pair] = True
            rows = [row for row in reasons_of(step_of(tables, pair)) if not any([inner in sizes for inner in row])]
            waiting.extend(rows[0])
    return tuple(sorted(found))
