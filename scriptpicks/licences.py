"""Licences: which edits are allowed."""

from scriptpicks.atoms import fits, is_pattern, turned
from scriptpicks.edits import Draft, element_of
from scriptpicks.errors import Wrong
from scriptpicks.words import HOMES, is_home, is_integer, is_name

WORDS = ("none", "front", "back", "any")
# The sorts of edits of rows of a start, ascending.
SORTS = ("call", "more", "out", "part", "turn")


def is_word(thing):
    """Return whether a value tells where rows may be put."""
    return isinstance(thing, str) and thing in WORDS


def is_number_of_row(thing):
    """Return whether a value is a tuple of a home and an integer from 0 on."""
    if not isinstance(thing, tuple) or len(thing) != 2:
        return False
    return is_home(thing[0]) and is_integer(thing[1]) and thing[1] >= 0


def are_names(thing):
    """Return whether a value is a list or a tuple of names."""
    return isinstance(thing, (list, tuple)) and all([is_name(name) for name in thing])


def are_patterns(thing):
    """Return whether a value is a list or a tuple of patterns."""
    return isinstance(thing, (list, tuple)) and all([is_pattern(pattern) for pattern in thing])


def are_numbers_of_rows(thing):
    """Return whether a value is a list or a tuple of different tuples of a home and an integer from 0 on."""
    if not isinstance(thing, (list, tuple)) or not all([is_number_of_row(told) for told in thing]):
        return False
    return len({told: True for told in thing}) == len(thing)


def common_word(one, other):
    """Return the word for the places that two words allow."""
    if one == other or other == "any":
        return one
    return other if one == "any" else "none"


def without_doubles(things):
    """Return the ascending list of the different ones of names, or of patterns."""
    return sorted(set(things))


class Licence:
    """Where rows may be put, which rows may be edited how, and what is barred; it never changes."""

    def __init__(self, *, goal="none", book="none", names=(), patterns=(), out=(), call=(), turn=(), part=(), more=()):
        for place, word in enumerate((goal, book)):
            if not is_word(word):
                raise Wrong(place)
        if not are_names(names):
            raise Wrong(2)
        if not are_patterns(patterns):
            raise Wrong(3)
        for place, numbers in enumerate((out, call, turn, part, more)):
            if not are_numbers_of_rows(numbers):
                raise Wrong(4 + place)
        self.words_told = {"goal": goal, "book": book}
        self.barred_names = without_doubles(names)
        self.barred_patterns = without_doubles(patterns)
        self.rows_told = {"call": sorted(call), "more": sorted(more), "out": sorted(out), "part": sorted(part),
                          "turn": sorted(turn)}

    def __eq__(self, other):
        return (isinstance(other, Licence) and self.words_told == other.words_told
                and self.rows_told == other.rows_told and self.barred_names == other.barred_names
                and self.barred_patterns == other.barred_patterns)

    def __and__(self, other):
        if not isinstance(other, Licence):
            return NotImplemented
        words = {home: common_word(self.words_told[home], other.words_told[home]) for home in HOMES}
        told = {sort: [row for row in self.rows_told[sort] if row in other.rows_told[sort]] for sort in SORTS}
        return Licence(
            goal=words["goal"], book=words["book"], names=self.barred_names + other.barred_names,
            patterns=self.barred_patterns + other.barred_patterns, out=told["out"], call=told["call"],
            turn=told["turn"], part=told["part"], more=told["more"])

    def bars(self, atom):
        """Return whether an atom is barred."""
        return any([fits(pattern, said) for pattern in self.barred_patterns for said in (atom, turned(atom))])

    def lets_place(self, rows, home, at):
        """Return whether a row may be put at a place among the rows of a home."""
        word = self.words_told[home]
        if word == "none" or (word == "front" and at > 0) or (word == "back" and at < len(rows)):
            return False
        # Only the parts of one row have one element.
        return at in (0, len(rows)) or element_of(rows[at - 1][2]) != element_of(rows[at][2])

    def lets_put(self, rows, edit):
        """Return whether an edit that puts a row among the rows of its home is allowed."""
        name, fact = edit[3]
        if name in self.barred_names or any([self.bars(atom) for atom in fact]):
            return False
        return self.lets_place(rows, edit[1], edit[2])

    def lets(self, draft, edit):
        """Return whether an edit is allowed that a Draft can do."""
        sort, home, at = edit[:3]
        rows = draft.rows(home)
        if sort == "put":
            return self.lets_put(rows, edit)
        if (sort == "call" and edit[3] in self.barred_names) or (sort == "more" and self.bars(edit[3])):
            return False
        return (home, element_of(rows[at][2])) in self.rows_told[sort]

    def lets_all(self, start, edits):
        """Return whether edits can be done one after another, each being allowed."""
        draft = Draft(start)
        for edit in edits:
            if not draft.can(edit) or not self.lets(draft, edit):
                return False
            draft.do(edit)
        return True

    def where(self, home):
        """Return the word that tells where rows may be put."""
        return self.words_told[home]

    def names(self):
        """Return the ascending list of the barred names."""
        return list(self.barred_names)

    def patterns(self):
        """Return the ascending list of the barred patterns."""
        return list(self.barred_patterns)

    def sorts(self, home, k):
        """Return the ascending list of the sorts of edits that are allowed for a row of the start."""
        return [sort for sort in SORTS if (home, k) in self.rows_told[sort]]

    def told(self, sort):
        """Return the ascending list of the tuples (home, k) of the rows that are told of a sort."""
        return list(self.rows_told.get(sort, []))

    def within(self, other):
        """Return whether all that this licence allows is told by the other one, too."""
        words = [self.words_told[home] in ("none", other.words_told[home]) or other.words_told[home] == "any"
                 for home in HOMES]
        told = [row in other.rows_told[sort] for sort in SORTS for row in self.rows_told[sort]]
        barred = [name in self.barred_names for name in other.barred_names]
        barred_too = [pattern in self.barred_patterns for pattern in other.barred_patterns]
        return all(words + told + barred + barred_too)
