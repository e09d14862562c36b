"""Starts: a goal, a book and an aim."""

from scriptpicks.atoms import is_atom, is_row
from scriptpicks.errors import NoRow, Wrong
from scriptpicks.marks import marked
from scriptpicks.words import is_index


def are_rows(thing):
    """Return whether a value is a list or a tuple of rows."""
    return isinstance(thing, (list, tuple)) and all([is_row(row) for row in thing])


class Start:
    """A goal and a book, lists of rows, and an aim, an atom; it never changes."""

    def __init__(self, goal, book, aim):
        if not are_rows(goal):
            raise Wrong(0)
        if not are_rows(book):
            raise Wrong(1)
        if not is_atom(aim):
            raise Wrong(2)
        self.goal_rows = list(goal)
        self.book_rows = list(book)
        self.aim_atom = aim

    def __eq__(self, other):
        return (isinstance(other, Start) and self.goal_rows == other.goal_rows
                and self.book_rows == other.book_rows and self.aim_atom == other.aim_atom)

    def __len__(self):
        return len(self.goal_rows + self.book_rows)

    def __contains__(self, x):
        return is_row(x) and (x in self.goal_rows or x in self.book_rows)

    @property
    def aim(self):
        """The atom that a "close" looks for."""
        return self.aim_atom

    def goal(self):
        """Return the list of the rows of the goal."""
        return list(self.goal_rows)

    def book(self):
        """Return the list of the rows of the book."""
        return list(self.book_rows)

    def rows(self, home):
        """Return the list of the rows of a home."""
        if home == "goal":
            return list(self.goal_rows)
        return list(self.book_rows)

    def row(self, home, at):
        """Return the row of a home with this index, or raise NoRow."""
        rows = self.rows(home)
        if not is_index(at, len(rows)):
            raise NoRow(at)
        return rows[at]

    def with_rows(self, home, rows):
        """Return the Start with these rows in the place of those of a home."""
        if home == "goal":
            return Start(rows, self.book_rows, self.aim_atom)
        return Start(self.goal_rows, rows, self.aim_atom)

    def with_row(self, home, at, row):
        """Return the Start with a row ahead of the one with this index, or behind all."""
        rows = self.rows(home)
        if not is_index(at, len(rows) + 1):
            raise NoRow(at)
        if not is_row(row):
            raise Wrong(2)
        return self.with_rows(home, rows[:at] + [row] + rows[at:])

    def without_row(self, home, at):
        """Return the Start without the row of a home with this index."""
        rows = self.rows(home)
        if not is_index(at, len(rows)):
            raise NoRow(at)
        return self.with_rows(home, rows[:at] + rows[at + 1:])

    def with_aim(self, atom):
        """Return the Start with another aim."""
        if not is_atom(atom):
            raise Wrong(0)
        return Start(self.goal_rows, self.book_rows, atom)

    def names(self):
        """Return the ascending list of the different names of the rows of both homes."""
        return sorted(set([name for name, fact in self.goal_rows + self.book_rows]))

    def things(self):
        """Return the ascending list of the different names in the atoms, those of the aim too."""
        facts = [fact for name, fact in self.goal_rows + self.book_rows]
        atoms = [atom for fact in facts for atom in fact] + [self.aim_atom]
        return sorted(set([thing for atom in atoms for thing in atom[1:]]))

    def owners(self, home):
        """Return the list of the tuples of the owners that the rows of a home hold."""
        return [owners for name, fact, owners, roots in marked(home, self.rows(home))]
