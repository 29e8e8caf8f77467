"""A plain ledger of what is on a shelf, as section 16 tells it: every state is kept whole, and copied."""

import copy

import plainly


class Refused(Exception):
    """(name of the error, value)"""

    def __init__(self, name, value):
        super().__init__(name, value)
        self.told = (name, value)


class Ledger:

    def __init__(self, text, forms):
        self.first = text
        self.state = {"editions": [(text, forms)], "documents": {}, "coming": 0, "deeds": []}
        self.back = []
        self.further = []
        self.trials = []

    def newest(self):
        return self.state["editions"][-1][1]

    def begin(self):
        """Ahead of a deed that will not be refused any more."""
        self.back.append(copy.deepcopy(self.state))
        self.further = []

    def put(self, kind, document):
        if type(kind) is not str or kind not in self.newest():
            raise Refused("NoKind", kind)
        if not plainly.is_document(document):
            raise Refused("NoDocument", document)
        reading = plainly.first(self.newest(), kind, document)
        if reading is None:
            raise Refused("NoReading", document)
        self.begin()
        number = self.state["coming"]
        edition = len(self.state["editions"]) - 1
        self.state["documents"][number] = [kind, copy.deepcopy(document), reading, edition]
        self.state["coming"] += 1
        self.state["deeds"].append(("put", kind, copy.deepcopy(document)))
        return number

    def lay(self, text, forms, whole, kept):
        """kept: what keeps tells of the newest edition and this one."""
        if type(whole) is not bool:
            raise Refused("BadTruth", whole)
        for number, (kind, document, reading, _) in sorted(self.state["documents"].items()):
            if kind not in forms or not plainly.same(plainly.first(forms, kind, document), reading):
                raise Refused("Broken", number)
        if whole and kept[0] == "breaks":
            raise Refused("NotKept", kept[1])
        self.begin()
        self.state["editions"].append((text, forms))
        self.state["deeds"].append(("lay", text, whole))
        return len(self.state["editions"]) - 1

    def row(self, number):
        if type(number) is not int or number not in self.state["documents"]:
            raise Refused("NoNumber", number)
        return self.state["documents"][number]

    def pass_on(self, number):
        kind, document, reading, _ = self.row(number)
        forms = self.newest()
        further = plainly.written(forms, plainly.first(forms, kind, document))
        if not plainly.same(plainly.first(forms, kind, further), reading):
            raise Refused("Turned", number)
        self.begin()
        self.state["documents"][number][1] = further
        self.state["deeds"].append(("pass_on", number))
        return not plainly.same(document, further)

    def take(self, number):
        self.row(number)
        self.begin()
        del self.state["documents"][number]
        self.state["deeds"].append(("take", number))

    def undo(self):
        if not self.back:
            raise Refused("NothingToUndo", None)
        self.further.append(self.state)
        self.state = self.back.pop()

    def redo(self):
        if not self.further:
            raise Refused("NothingToRedo", None)
        self.back.append(self.state)
        self.state = self.further.pop()

    def enter(self):
        self.trials.append([copy.deepcopy((self.state, self.back, self.further)), False])

    def keep(self):
        if not self.trials:
            raise Refused("NoTrial", None)
        self.trials[-1][1] = True

    def leave(self, failed):
        kept, is_kept = self.trials.pop()
        if failed or not is_kept:
            self.state, self.back, self.further = kept

    def journal(self, shown):
        """shown: the function that tells the text of a document."""
        lines = ["shelf " + joined(self.first)]
        for deed in self.state["deeds"]:
            if deed[0] == "put":
                lines.append("put " + deed[1] + " " + shown(deed[2]))
            elif deed[0] == "lay":
                lines.append(("lay whole " if deed[2] else "lay ") + joined(deed[1]))
            else:
                lines.append(deed[0] + " " + str(deed[1]))
        return tuple(lines)


def joined(text):
    return "|" + text.replace("\n", "|")
