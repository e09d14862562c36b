"""Targets: what the picks of a script meant, and the rows on which they act in the held run.

The target of a pick is a tuple (pick, owners, wanted, fact): owners is the
ascending list of the owners that it meant, wanted the dict from these, made
flat, to True, and fact the fact that the picked row has in the run of the start
itself, or None if the pick is not single.
"""

from scriptpicks.atoms import fits_fact
from scriptpicks.marks import marked
from scriptpicks.picks import bare, home_of, is_single, pattern_of, picked
from scriptpicks.runs import meant, owned, picks
from scriptpicks.steps import picks_of


def flat(owner):
    """Return an owner as a tuple that holds no other one, however often its atom was copied."""
    numbers = []
    while owner[0] == "copy":
        numbers.append(owner[1])
        owner = owner[2]
    return tuple(numbers) + owner


def rows_of(pick, goal, book):
    """Return the list of the rows of the home at which a pick looks."""
    return book if home_of(pick) == "book" else goal


def target_of(pick, owners, indexes, rows):
    """Return the target of a pick that meant these owners and picked the marked rows with these indexes."""
    fact = rows[indexes[0]][1] if is_single(pick) else None
    return (pick, owners, {flat(owner): True for owner in owners}, fact)


def targets_of(start, script):
    """Return the list, for each step, of the lists of the targets of its picks, or raise Stopped."""
    goals, chosen, book = owned(start, script), picks(start, script), marked("book", start.book())
    told = meant(start, script)
    return [[target_of(pick, told[index][number], chosen[index][number], rows_of(pick, goals[index], book))
             for number, pick in enumerate(picks_of(step))] for index, step in enumerate(script.steps())]


def held_many(wanted, rows):
    """Return how many of the wanted owners are in marked rows."""
    return len([owner for row in rows for owner in row[2] if flat(owner) in wanted])


def held_rows(target, rows):
    """Return the indexes of the marked rows on which a pick acts, or None if what it meant is not there."""
    pick, owners, wanted, fact = target
    if len(wanted) == 0:
        return [] if is_single(pick) else picked(bare(pick), rows)
    many = [held_many(wanted, [row]) for row in rows]
    if sum(many) < len(wanted):
        return None
    if not is_single(pick):
        return [at for at, row in enumerate(rows) if many[at] > 0 or fits_fact(pattern_of(pick), row[1])]
    return [many.index(len(wanted))] if len(wanted) in many else None


def is_lost(step, targets, goal, chosen, aim):
    """Return whether a step is lost that acts on these rows."""
    if None in chosen:
        return True
    if step[0] == "chain":
        return any([goal[at][1] != target[3] for target, indexes in zip(targets, chosen) for at in indexes])
    return step[0] == "close" and any([aim not in goal[at][1] for indexes in chosen for at in indexes])


def held_step(step, targets, goal, book, aim):
    """Return the list, for each pick of a step, of the indexes of the rows on which it acts, or None if it is lost."""
    chosen = [held_rows(target, rows_of(target[0], goal, book)) for target in targets]
    return None if is_lost(step, targets, goal, chosen, aim) else chosen
