"""Section 17, texts: documents written on one line, and read from there."""

import random
import unittest

import plainly
from asking import NO_DOCUMENTS, Asking, deep, deeper
from tagless import texts as module
from tagless.errors import BadText, NoDocument
from tagless.texts import read_document, show_document

ROWS = [(None, "-"), (True, "yes"), (False, "no"), (0, "0"), (7, "7"), (-7, "-7"), (10, "10"), (-9876543210987654321, "-9876543210987654321"),
        ("", '""'), ("a b", '"a b"'), ('"', '"\\""'), ("\\", '"\\\\"'), ('a"b\\c', '"a\\"b\\\\c"'), ('\\"', '"\\\\\\""'), ("yes", '"yes"'),
        ("[1, 2]", '"[1, 2]"'), ("{x: -}", '"{x: -}"'), ("a, b: c", '"a, b: c"'), (" ", '" "'), ("~!@#$^&*'`", "\"~!@#$^&*'`\""),
        ([], "[]"), ({}, "{}"), ([1], "[1]"), ([1, [None, True]], "[1, [-, yes]]"), ([[], {}, ""], '[[], {}, ""]'),
        ({"x": 1}, "{x: 1}"), ({"y": 1, "x": 2, "aa": 3}, "{aa: 3, x: 2, y: 1}"), ({"yes": {"no": [{}]}}, "{yes: {no: [{}]}}"),
        ([{"b": "b: 1, c: 2}", "a": ["]"]}], '[{a: ["]"], b: "b: 1, c: 2}"}]'), ("x" * 200, '"' + "x" * 200 + '"'), ("a|b\n", '"a|b\n"')]

NO_TEXTS = ["", " ", " -", "- ", "--", "- -", "-0", "00", "01", "-01", "+1", "1.0", "1e3", "0x1", "1_0", "1 ", " 1", "1 2", "--1", "-1-", "\u0661",
            "yes ", "Yes", "YES", "true", "True", "None", "null", "nope", "no no", "a", "'a'", '"', '"a', 'a"', '"a"b', '"a""b"', '"a" "b"',
            '"\\"', '"\\', '"\\a"', '"\\n"', '"a\\"', '""a', "[", "]", "[]]", "[[]", "[][]", "[] ", " []", "[ ]", "[1,2]", "[1,  2]",
            "[1 , 2]", "[1 2]", "[1, 2", "[1, 2,]", "[1, 2, ]", "[, 1]", "[1,, 2]", "[1; 2]", "[ 1]", "[1 ]", "(1)", "[}", "{]", "{", "}", "{{}",
            "{}}", "{ }", "{x:1}", "{x : 1}", "{x:  1}", "{x: 1 }", "{ x: 1}", "{x: 1,y: 2}", "{x: 1,  y: 2}", "{x: 1 y: 2}", "{x: 1, }",
            "{x: 1,}", "{x}", "{x: }", "{x:}", "{x, 1}", "{: 1}", "{1: 1}", '{"x": 1}', "{X: 1}", "{x1: 1}", "{abcdefghi: 1}", "{x: 1, x: 1}",
            "{x: 1, x: 2}", "{y: 1, x: 2}", "{x: {b: 1, a: 2}}", "{x: 1: 2}", "{[]: 1}", "{x: 1, 2}", "{x 1}", "[x: 1]", "[x]", "{-: 1}",
            "1]", "1}", "]1", "}{", "][", '"a"]', "[1]2", "{x: 1}2", "-]", "\t1", "1\n", "[1,\n2]", "\n", ":", ",", ", ", ": ", "\\"]


class TestTexts(Asking):

    def test_rows(self):
        for document, text in ROWS:
            self.same(show_document(document), text)
            self.same(show_document(document=document), text)
            self.same(read_document(text), document)
            self.same(read_document(text=text), document)

    def test_no_document(self):
        for value in NO_DOCUMENTS:
            self.refused(NoDocument, value, show_document, value)

    def test_no_text(self):
        for value in NO_TEXTS + [None, True, False, 0, 1, (), ("-",), [], ["-"], {}, {"-": 1}, deep(90), deeper(90)]:
            self.refused(BadText, value, read_document, value)

    def test_functions_are_defined_in_the_file(self):
        for name in "show_document read_document".split():
            self.assertEqual(getattr(module, name).__module__, "tagless.texts")

    def test_what_is_read_is_new(self):
        one, other = read_document("[{}, []]"), read_document("[{}, []]")
        one[0]["x"] = 1
        one[1].append(2)
        self.same(other, [{}, []])

    def test_deep_and_long_ones(self):
        for levels in (20, 90, 300):
            self.same(read_document(show_document(deep(levels, {"x": 1}))), deep(levels, {"x": 1}))
        wide = [{"x": number, "y": str(number)} for number in range(2000)]
        self.same(read_document(show_document(wide)), wide)

    def test_many_documents(self):
        source = random.Random(171)
        for _ in range(2000):
            document = self.document(source, 3)
            text = show_document(document)
            self.same(text, self.plain_text(document))
            self.same(read_document(text), document)

    def test_one_sign_otherwise(self):
        source = random.Random(172)
        seen = {True: 0, False: 0}
        for _ in range(6000):
            text = self.plain_text(self.document(source, 2))
            at = source.randrange(len(text) + 1)
            sign = source.choice(' -"\\[]{},:xy01no')
            other = source.choice([text[:at] + sign + text[at:], text[:at] + text[at + 1:], text[:at] + sign + text[at + 1:],
                                   text[:at] + text[at:at + 1] + text[at:]])
            found = self.plain_read(other)
            seen[len(found) == 1] += 1
            if found:
                self.same(read_document(other), found[0])
            else:
                self.refused(BadText, other, read_document, other)
        self.assertGreater(min(seen.values()), 500, seen)

    def document(self, source, levels):
        choice = source.randrange(9 if levels else 6)
        if choice < 6:
            return source.choice([None, True, False, 0, 1, -1, 10, 123456789, "", "a", '"', "\\", "x: 1", "- ", '\\"', "[]", "yes"])
        many = source.randrange(4)
        if choice == 6:
            return [self.document(source, levels - 1) for _ in range(many)]
        return {name: self.document(source, levels - 1) for name in source.sample(["x", "y", "no", "abcdefgh", "b"], many)}

    def plain_text(self, document):
        """By the words of the section."""
        if document is None or type(document) is bool:
            return {None: "-", True: "yes", False: "no"}[document]
        if type(document) is int:
            return str(document)
        if type(document) is str:
            return '"' + "".join("\\" + sign if sign in '"\\' else sign for sign in document) + '"'
        if type(document) is list:
            return "[" + ", ".join(self.plain_text(part) for part in document) + "]"
        return "{" + ", ".join(f"{name}: {self.plain_text(document[name])}" for name in sorted(document)) + "}"

    def plain_read(self, text):
        """The document with this text in a list of one, or an empty list: each form is tried sign by sign."""
        found = self.one_at(text, 0)
        return [found[0]] if found and found[1] == len(text) else []

    def one_at(self, text, at):
        """(document, place behind it) of what begins here, None if nothing does."""
        for word, told in (("yes", True), ("no", False)):
            if text.startswith(word, at):
                return told, at + len(word)
        number = at + 1 if text[at:at + 1] == "-" else at
        end = number
        while end < len(text) and text[end] in "0123456789":
            end += 1
        if end > number:
            digits = text[number:end]
            right = digits == "0" and number == at or not digits.startswith("0")
            return (int(text[at:end]), end) if right else None
        if number > at:
            return None, number
        if text[at:at + 1] == '"':
            return self.string_at(text, at + 1)
        if text[at:at + 1] == "[":
            return self.row_at(text, at + 1, "]", [])
        return self.row_at(text, at + 1, "}", {}) if text[at:at + 1] == "{" else None

    def string_at(self, text, at):
        told = ""
        while at < len(text) and text[at] != '"':
            if text[at] == "\\":
                at += 1
                if text[at:at + 1] not in ('"', "\\"):
                    return None
            told += text[at]
            at += 1
        return (told, at + 1) if at < len(text) else None

    def row_at(self, text, at, closing, told):
        while True:
            if text[at:at + 1] == closing and not told:
                return told, at + 1
            if closing == "}":
                name = text[at:].partition(": ")[0]
                if not plainly.is_name(name) or told and name <= max(told) or not text.startswith(name + ": ", at):
                    return None
                at += len(name) + 2
            found = self.one_at(text, at)
            if found is None:
                return None
            if closing == "}":
                told[name] = found[0]
            else:
                told.append(found[0])
            at = found[1]
            if text[at:at + 1] == closing:
                return told, at + 1
            if text[at:at + 2] != ", ":
                return None
            at += 2


if __name__ == "__main__":
    unittest.main()
