"""Changes: to which rows a row of the start can be changed, and what that does to the steps."""

from scriptpicks.classes import allowed_atoms, names_of, patterns_asked
from scriptpicks.edits import changed_row
from scriptpicks.lives import listed
from scriptpicks.solos import adds_in, misses_in, own_targets, spot_of_row, stages_of, views_of

# The number of an atom that is not of the start.
ADDED = -1


def edits_for(sorts, is_short, names, atoms):
    """Return the list of the tuples (sort, rest) of the edits of these sorts, with names for calls and atoms for mores.

    is_short is whether the row has one atom in the start.
    """
    edits = [(sort, ()) for sort in ("out", "turn", "part") if sort in sorts]
    if "call" in sorts:
        edits = edits + [("call", (name,)) for name in names]
    if "more" in sorts and is_short:
        edits = edits + [("more", (atom, side)) for atom in atoms for side in (0, 1)]
    return edits


def can_be_done(sort, numbers):
    """Return whether an edit of a sort can be done to a row with atoms of these numbers."""
    if sort == "part":
        return len(numbers) == 2 and ADDED not in numbers
    return sort != "more" or len(numbers) == 1


def next_rows(rows, edits, home, k):
    """Return the list of the tuples (rows, edit) that one more edit of a row of the start leads to."""
    result = []
    for at, row in enumerate(rows):
        for sort, rest in edits:
            if can_be_done(sort, row[2]):
                edit = (sort, home, k + at) + rest
                result.append((rows[:at] + tuple(changed_row(row, edit, ADDED)) + rows[at + 1:], edit))
    return result


def ways_to_rows(row, sorts, names, atoms, home, k):
    """Return the dict from the tuples of rows to which a row of the start can be changed to a shortest list of edits.

    The edits are of these sorts; names are those for calls, atoms those for mores.
    """
    name, fact = row
    edits = edits_for(sorts, len(fact) == 1, names, atoms)
    rows = ((name, fact, tuple(range(len(fact)))),)
    ways, left = {rows: []}, [rows]
    while left != []:
        ahead, left = left, []
        for rows in ahead:
            for reached, edit in next_rows(rows, edits, home, k):
                if reached not in ways:
                    ways[reached] = ways[rows] + [edit]
                    left.append(reached)
    return ways


def marked_rows(home, k, rows):
    """Return the marked rows for the rows to which a row of the start is changed."""
    # No step meant an atom that was added: any root that none of the start has will do for it.
    roots = [tuple([(home, k, number) for number in numbers]) for name, fact, numbers in rows]
    return [(row[0], row[1], told, told) for row, told in zip(rows, roots)]


def told_alone(held, own, home, k, rows):
    """Return what a row of the start does alone that is changed to rows, as a tuple (lost, misses, adds)."""
    marked = marked_rows(home, k, rows)
    stages, lost = stages_of(held, own, home, marked)
    views = views_of(own, stages, home, marked, len(own) if lost is None else lost)
    return lost, misses_in(views, spot_of_row(k)), adds_in(views, spot_of_row(k))


def changes(held, licence, home, k):
    """Return the list of the tuples (rows, edits, lost, misses, adds) of the changes of a row of the start."""
    own = own_targets(held, home, k)
    start = held.start()
    atoms = allowed_atoms(licence, patterns_asked(held, licence) + [start.aim])
    ways = ways_to_rows(start.row(home, k), licence.sorts(home, k), names_of(held, licence), atoms, home, k)
    # The row as it is stands first.
    before = told_alone(held, own, home, k, next(iter(ways), None))[2]
    result = []
    for rows in ways:
        lost, misses, adds = told_alone(held, own, home, k, rows)
        more = {pick: adds[pick] - before[pick] for pick in adds}
        result.append((list(rows), ways[rows], lost, misses, listed(more)))
    return sorted(result, key=lambda told: (len(told[1]), told[0]))
