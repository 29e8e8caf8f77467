"""Groups: all marks that documents of a book have, each with a least document.

Documents are found from the least ones on. A node is one of
- ("group", number): documents with one mark and sign;
- ("list", many, whole): lists whose so many members (or more, if they are LONG) joined to this number;
- ("record", many, whole): records whose first so many names of fields joined to this number.
"""

from heapq import heappop, heappush

from tagless.blocks import field_number, list_mark, list_number, record_mark, record_start, room_number
from tagless.errors import TooMany
from tagless.least import least_made
from tagless.plans import LONG, Plan, leaf_mark, leaves_of, sign_of

MOST = 200


class Groups:
    """The groups that were found so far, and what is still to be looked at."""

    def __init__(self, forms, passing):
        self.plan = Plan(forms, passing)
        self.rooms = [room_number(self.plan, many) for many in range(LONG + 1)]
        self.places = {}
        self.signed = []
        self.marks = {}
        self.sizes = {}
        self.made = {}
        self.queue = []
        self.pushed = 0
        self.done = {}
        self.lists = {}
        self.records = [{} for _ in self.plan.asked]
        self.options = {}
        self.choices = [{} for _ in self.plan.asked]

    def find_all(self):
        """Finds all groups, from the least one on; TooMany if there are too many marks."""
        for leaf in leaves_of(self.plan.table):
            self.found(leaf_mark(self.plan, leaf), sign_of(self.plan, leaf), 1, ("leaf", leaf))
        self.push(("list", 0, self.rooms[0]), 0, ())
        self.push(("record", 0, record_start(self.plan)), 0, ())
        for many, field in enumerate(self.plan.asked):
            self.choices[many][field_number(self.plan, field, None, ())] = (0, ())
        while self.queue:
            size, _, node = heappop(self.queue)
            if node not in self.done:
                self.done[node] = True
                self.look_at(node, size)

    def found(self, mark, sign, size, recipe):
        """A document with this mark and sign."""
        self.marks[mark] = True
        if len(self.marks) > MOST:
            raise TooMany(MOST)
        if (mark, sign) not in self.places:
            self.places[(mark, sign)] = len(self.signed)
            self.signed.append((mark, sign))
        self.push(("group", self.places[(mark, sign)]), size, recipe)

    def push(self, node, size, how):
        """Documents of a node of this size, if none was found that is as small."""
        if node not in self.sizes or size < self.sizes[node]:
            self.sizes[node] = size
            self.made[node] = how
            self.pushed += 1
            heappush(self.queue, (size, self.pushed, node))

    def look_at(self, node, size):
        """What can be made of a node, whose least size this is."""
        if node[0] == "group":
            self.look_at_group(node, size)
        elif node[0] == "list":
            self.look_at_list(node, size)
        else:
            self.look_at_record(node, size)

    def look_at_group(self, node, size):
        """A group as a member of lists, and as what stands in fields."""
        mark, sign = self.signed[node[1]]
        number = list_number(self.plan, mark)
        # A greater document that is right for the same kinds is never needed.
        if number not in self.options:
            self.options[number] = (size, node)
            for start in list(self.lists):
                self.join_list(start, number)
        for many, field in enumerate(self.plan.asked):
            number = field_number(self.plan, field, mark, sign)
            if number not in self.choices[many]:
                self.choices[many][number] = (size, ((field, node),))
                for start in list(self.records[many]):
                    self.join_record(start, number)

    def look_at_list(self, node, size):
        """Lists as documents, and as the beginnings of longer ones."""
        _, many, whole = node
        self.found(list_mark(self.plan, whole, many), (), size + 1, ("list", self.made[node]))
        self.lists[node] = True
        for number in list(self.options):
            self.join_list(node, number)

    def look_at_record(self, node, size):
        """Records as documents, if all their fields are told, or as what further fields come to."""
        _, many, whole = node
        if many == len(self.plan.asked):
            self.found(record_mark(self.plan, whole), (), size + 1, ("record", self.made[node], ()))
            return
        self.records[many][node] = True
        for number in list(self.choices[many]):
            self.join_record(node, number)

    def join_list(self, node, number):
        """Lists with one member more."""
        _, many, whole = node
        longer = min(many + 1, LONG)
        size, member = self.options[number]
        further = ("list", longer, whole & number & self.rooms[longer])
        self.push(further, self.sizes[node] + size, self.made[node] + (member,))

    def join_record(self, node, number):
        """Records of which one field more is told."""
        _, many, whole = node
        size, row = self.choices[many][number]
        self.push(("record", many + 1, whole & number), self.sizes[node] + size, self.made[node] + row)

    def best(self):
        """A dict from each mark to the node of its least documents."""
        told = {}
        for number, (mark, _) in enumerate(self.signed):
            node = ("group", number)
            if mark not in told or self.sizes[node] < self.sizes[told[mark]]:
                told[mark] = node
        return told

    def told(self, node):
        """A new least document of a group; TooLarge if it has too many parts to be told."""
        return least_made(self.sizes, self.made, node)


def all_groups(forms, passing):
    """The Groups of a book, all found; passing tells whether marks tell of passing on."""
    groups = Groups(forms, passing)
    groups.find_all()
    return groups
