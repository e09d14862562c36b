"""Marked rows: tuples (name, fact, owners, roots), one owner and one root for each atom."""


def marked(home, rows):
    """Return the marked rows of a home of a start; there each atom is its own root and owner."""
    return [marked_row(home, number, row) for number, row in enumerate(rows)]


def marked_row(home, number, row):
    """Return the marked row for the row with this number."""
    name, fact = row
    roots = tuple([(home, number, place) for place in range(len(fact))])
    return (name, fact, roots, roots)


def unmarked(rows):
    """Return the plain rows of marked rows."""
    return [(name, fact) for name, fact, owners, roots in rows]
