"""What a step does to marked rows, once it is known which rows it picked."""

from scriptpicks.atoms import chained, turned_fact
from scriptpicks.picks import home_of


def parts(row):
    """Return the list of the rows for the single atoms of a marked row."""
    name, fact, owners, roots = row
    return [(name, (atom,), (owner,), (root,)) for atom, owner, root in zip(fact, owners, roots)]


def changed(row, step):
    """Return the list of the marked rows that a step puts in the place of a picked one."""
    name, fact, owners, roots = row
    kind = step[0]
    if kind == "turn":
        return [(name, turned_fact(fact), owners, roots)]
    if kind == "part":
        return parts(row)
    if kind == "call":
        return [(step[2], fact, owners, roots)]
    return []


def copy_of(row, name, number):
    """Return the copy of a marked row that the step with this number makes."""
    fact, owners, roots = row[1:]
    return (name, fact, tuple([("copy", number, owner) for owner in owners]), roots)


def chain_of(one, other, name, number):
    """Return the marked row to which the step with this number chains two rows of one atom."""
    atom = chained(one[1][0], other[1][0])
    return (name, (atom,), (("made", number),), (("made", one[3][0], other[3][0]),))


def acted(goal, book, step, chosen, number):
    """Return the list of the marked rows of the goal behind a step that is not stuck.

    chosen has the list of the indexes of the picked rows for each pick of the
    step, and number is the number of the step in its script.
    """
    kind = step[0]
    if kind == "close":
        return list(goal)
    if kind == "chain":
        one, other = [goal[indexes[0]] for indexes in chosen]
        return goal + [chain_of(one, other, step[3], number)]
    if kind == "copy":
        source = book if home_of(step[1]) == "book" else goal
        return goal + [copy_of(source[at], step[2], number) for at in chosen[0]]
    reached = {at: True for at in chosen[0]}
    kept = [changed(row, step) if at in reached else [row] for at, row in enumerate(goal)]
    return [row for rows in kept for row in rows]
