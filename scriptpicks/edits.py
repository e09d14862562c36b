"""Edits of starts: what they are, and drafts, to which they are done."""

from scriptpicks.atoms import is_atom, is_row, turned_fact
from scriptpicks.errors import BadEdit, Nothing
from scriptpicks.starts import Start
from scriptpicks.words import HOMES, is_home, is_integer, is_name

# How many parts an edit of each sort has.
LENGTHS = {"put": 4, "out": 3, "call": 4, "turn": 3, "part": 3, "more": 5}


def is_side(thing):
    """Return whether a value is a side of an atom."""
    return is_integer(thing) and thing in (0, 1)


def is_edit(thing):
    """Return whether a value has the form of an edit."""
    if not isinstance(thing, tuple) or len(thing) < 3 or not isinstance(thing[0], str):
        return False
    sort, home, at = thing[:3]
    if len(thing) != LENGTHS.get(sort, 0) or not is_home(home) or not is_integer(at) or at < 0:
        return False
    if sort == "put":
        return is_row(thing[3])
    if sort == "call":
        return is_name(thing[3])
    return sort != "more" or is_atom(thing[3]) and is_side(thing[4])


def rooted(home, rows):
    """Return the tuples (name, fact, roots) for the rows of a home of a start."""
    return [(name, fact, tuple([(home, number, place) for place in range(len(fact))]))
            for number, (name, fact) in enumerate(rows)]


def put_row(row, number):
    """Return the tuple (name, fact, roots) for a row that the edit with this number puts in."""
    name, fact = row
    return (name, fact, tuple([("new", number, place) for place in range(len(fact))]))


def changed_row(row, edit, added):
    """Return the list of the rows that an edit, which is no put, puts in the place of a row.

    The row has a name, a fact, and one mark for each atom; added is the mark of
    an atom that the edit adds.
    """
    name, fact, marks = row
    sort = edit[0]
    if sort == "call":
        return [(edit[3], fact, marks)]
    if sort == "turn":
        return [(name, turned_fact(fact), marks)]
    if sort == "part":
        return [(name, (atom,), (mark,)) for atom, mark in zip(fact, marks)]
    if sort == "more":
        side = edit[4]
        return [(name, fact[:side] + (edit[3],) + fact[side:], marks[:side] + (added,) + marks[side:])]
    return []


def row_number(roots):
    """Return the number of the row of the start that has one of the roots, or None if it was put in."""
    for root in roots:
        if root[0] in HOMES:
            return root[1]
    return None


def element_of(roots):
    """Return the number of the row of the start that has one of the roots, or ("new", m) of the edit m."""
    number = row_number(roots)
    return roots[0][:2] if number is None else number


class Draft:
    """An edited start; edits are done to it one by one, and undone."""

    def __init__(self, start):
        self.first_start = start
        # These lists are replaced, never changed: so copies may share them.
        self.edits_done = []
        self.homes_then = [{home: rooted(home, start.rows(home)) for home in HOMES}]

    def __eq__(self, other):
        return (isinstance(other, Draft) and self.first_start == other.first_start
                and self.edits_done == other.edits_done)

    def __len__(self):
        return len(self.edits_done)

    def __iadd__(self, other):
        self.do(other)
        return self

    def can_change(self, edit):
        """Return whether an edit that is no put can be done to the row with its index."""
        sort, home, at = edit[:3]
        roots = self.homes_then[-1][home][at][2]
        number = row_number(roots)
        if number is None:
            return False
        if sort == "part":
            return len(roots) == 2 and all([root[0] in HOMES for root in roots])
        if sort == "more":
            return len(roots) == 1 and len(self.first_start.row(home, number)[1]) == 1
        return True

    def can(self, edit):
        """Return whether a value is an edit that can be done now."""
        if not is_edit(edit):
            return False
        many = len(self.homes_then[-1][edit[1]])
        if edit[0] == "put":
            return edit[2] <= many
        return edit[2] < many and self.can_change(edit)

    def rows_behind(self, edit):
        """Return the list of the rows of the home of an edit behind it."""
        rows, at, number = self.homes_then[-1][edit[1]], edit[2], len(self.edits_done)
        if edit[0] == "put":
            return rows[:at] + [put_row(edit[3], number)] + rows[at:]
        return rows[:at] + changed_row(rows[at], edit, ("new", number, 0)) + rows[at + 1:]

    def do(self, edit):
        """Do an edit, or raise BadEdit with the number of the edits done."""
        if not self.can(edit):
            raise BadEdit(len(self.edits_done))
        behind = {home: self.homes_then[-1][home] for home in HOMES}
        behind[edit[1]] = self.rows_behind(edit)
        self.homes_then = self.homes_then + [behind]
        self.edits_done = self.edits_done + [edit]

    def rows(self, home):
        """Return the list of the tuples (name, fact, roots) of the rows of a home."""
        return list(self.homes_then[-1][home])

    def edits(self):
        """Return the list of the edits done."""
        return list(self.edits_done)

    def back(self):
        """Undo the last edit, and return it."""
        if len(self.edits_done) == 0:
            raise Nothing()
        edit = self.edits_done[-1]
        self.edits_done = self.edits_done[:-1]
        self.homes_then = self.homes_then[:-1]
        return edit

    def start(self):
        """Return the Start that the rows make."""
        homes = [[(name, fact) for name, fact, roots in self.homes_then[-1][home]] for home in HOMES]
        return Start(homes[0], homes[1], self.first_start.aim)

    def first(self):
        """Return the Start that was edited."""
        return self.first_start

    def copied(self):
        """Return a Draft that stands there, too, and goes on by itself."""
        other = Draft(self.first_start)
        other.edits_done, other.homes_then = self.edits_done, self.homes_then
        return other


def edited(start, edits):
    """Return the Draft behind edits, or raise BadEdit with the index of the first one that cannot be done."""
    draft = Draft(start)
    for edit in edits:
        draft.do(edit)
    return draft


def elements_in(draft, home):
    """Return the list of the tuples (element, many) of a home, in the order of their first rows."""
    many = {}
    for name, fact, roots in draft.rows(home):
        element = element_of(roots)
        many[element] = many.get(element, 0) + 1
    return list(many.items())
