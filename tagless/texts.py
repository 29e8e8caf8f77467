"""Texts: documents written on one line, and read from there."""

from tagless.asked import check_document
from tagless.booktext import DIGITS
from tagless.documents import inner_parts, is_name, parts_of
from tagless.errors import BadText

MARKS = "[]{},: "

# Words that stand for documents without parts.
WORDS = {"-": None, "yes": True, "no": False}


def leaf_text(leaf):
    """The text of a document that is no list and no record."""
    if leaf is None:
        return "-"
    if isinstance(leaf, bool):
        return "yes" if leaf else "no"
    if isinstance(leaf, int):
        return str(leaf)
    inner = leaf.replace("\\", "\\\\").replace('"', '\\"')
    return f'"{inner}"'


def outer_text(part, inner):
    """The text of a document, from the texts of what is in it."""
    if isinstance(part, list):
        return "[" + ", ".join(inner) + "]"
    if isinstance(part, dict):
        rows = sorted(zip(list(part), inner))
        return "{" + ", ".join([f"{field}: {told}" for field, told in rows]) + "}"
    return leaf_text(part)


def text_of(document):
    """The text of a document."""
    parts = parts_of(document)
    told = ["" for _ in parts]
    # Inner parts stand in the sequence of what they are in, so those of the last part end the list.
    end = len(parts)
    for at in reversed(range(len(parts))):
        start = end - len(inner_parts(parts[at]))
        told[at] = outer_text(parts[at], told[start:end])
        end = start
    return told[0]


def show_document(document):
    """The text of a document; NoDocument of what is none."""
    check_document(document)
    return text_of(document)


def string_end(text, at):
    """The place behind a string that begins here; the end of the text if it does not end."""
    end = at + 1
    while end < len(text) and text[end] != '"':
        end = end + (2 if text[end] == "\\" else 1)
    return end + 1


def token_end(text, at):
    """The place behind the string, the mark or the word that begins here."""
    if text[at] == '"':
        return string_end(text, at)
    end = at + 1
    if text[at] not in MARKS:
        while end < len(text) and text[end] not in MARKS and text[end] != '"':
            end += 1
    return end


def tokens_of(text):
    """The strings, brackets and words of a text, in sequence; what stands between them is left out."""
    tokens = []
    at = 0
    while at < len(text):
        end = token_end(text, at)
        tokens.append(text[at:end])
        at = end
    return [token for token in tokens if token not in (",", ":", " ")]


def unquoted(token):
    """The string that a token in quotes tells."""
    told = []
    at = 1
    while at < len(token) - 1:
        if token[at] == "\\":
            at += 1
        told.append(token[at])
        at += 1
    return "".join(told)


def leaves_in(token):
    """The document that a string or a word tells, in a list of one; an empty one if it tells none."""
    if token.startswith('"'):
        return [unquoted(token)]
    if token in WORDS:
        return [WORDS[token]]
    digits = token[1:] if token.startswith("-") else token
    return [int(token)] if all([digit in DIGITS for digit in digits]) else []


def wholes_in(frame, token):
    """The list or record that a frame makes with its closing bracket, in a list of one, or an empty list."""
    inner = frame[1:]
    if frame[0] + token == "[]":
        return [inner]
    if frame[0] + token != "{}" or len(inner) % 2 == 1 or not all([is_name(field) for field in inner[::2]]):
        return []
    return [dict(zip(inner[::2], inner[1::2]))]


def read_loosely(text):
    """The documents that stand in a text one behind the other, whatever is between them; none if it breaks off."""
    frames = [[""]]
    for token in tokens_of(text):
        if token in ("[", "{"):
            frames.append([token])
            continue
        if token in ("]", "}"):
            found = wholes_in(frames.pop(), token)
        elif frames[-1][0] == "{" and len(frames[-1]) % 2 == 1:
            found = [token]
        else:
            found = leaves_in(token)
        if not found:
            return []
        frames[-1].extend(found)
    return frames[0][1:]


def documents_in(text):
    """The document whose text this is, any value, in a list of one; an empty list if it is the text of none."""
    if not isinstance(text, str):
        return []
    found = read_loosely(text)
    # A document has one text alone, so whatever else is in it has to be told just so.
    return found if len(found) == 1 and text_of(found[0]) == text else []


def read_document(text):
    """The document whose text this is; BadText of what is none."""
    found = documents_in(text)
    if not found:
        raise BadText(text)
    return found[0]
