"""What one element of an edited start does alone, the others being as in the start.

In the held run each element goes its own way: it is enough to follow its rows.
The place of a row among the rows of a home is told by a tuple that is less than
that of each row behind it: rows that a step put behind all begin with (1, step),
and rows of the start, or put in, end with (0, spot).
"""

from scriptpicks.acts import acted
from scriptpicks.picks import bare, is_single, picked, place_of
from scriptpicks.steps import ONLY_SINGLE
from scriptpicks.targets import flat, held_many, held_rows, held_step, rows_of


def spot_of_gap(gap):
    """Return the spot, in its home, of the gap with this number."""
    return 2 * gap


def is_gap(spot):
    """Return whether a spot is a gap, and not a row of the start."""
    return spot % 2 == 0


def spot_of_row(number):
    """Return the spot, in its home, of the row of the start with this number."""
    return 2 * number + 1


def numbers_of(owner):
    """Return the tuple of the numbers of the steps that copied an atom, the last of them first."""
    return flat(owner)[:-3]


def copied_by(row):
    """Return the tuple with which the place of a marked row begins that is no chained one."""
    return tuple([(1, number) for number in numbers_of(row[2][0])])


def is_made(owner):
    """Return whether an owner is that of an atom that was chained, or of a copy of one."""
    return flat(owner)[-2] == "made"


def place_of_made(owner):
    """Return the place of the row that holds the owner of an atom that was chained, or of a copy of one."""
    numbers = flat(owner)
    return tuple([(1, number) for number in numbers[:-2] + numbers[-1:]])


def place_of_meant(target):
    """Return the place of the row that a single pick meant."""
    owner = target[1][0]
    if is_made(owner):
        return place_of_made(owner)
    return tuple([(1, number) for number in numbers_of(owner)]) + ((0, spot_of_row(flat(owner)[-2])),)


def own_target(target, home, number):
    """Return the target with just those owners that come of one row of the start, or of none."""
    pick, owners, wanted, fact = target
    return (pick, owners, {owner: True for owner in wanted if owner[-3:-1] == (home, number)}, fact)


def own_targets(held, home, number):
    """Return the targets with just what comes of a row of the start; number is None for a newcomer."""
    return [[own_target(target, home, number) for target in targets] for targets in held.targets()]


def stages_of(held, own, home, rows):
    """Return what comes of the marked rows of an element, and the step that it loses alone, or None.

    What comes of it is told as the lists of its rows of the goal, for the
    beginning and behind each step that is not lost.
    """
    goal = rows if home == "goal" else []
    book = rows if home == "book" else []
    stages = [goal]
    for index, step in enumerate(held.script().steps()):
        chosen = held_step(step, own[index], goal, book, held.start().aim)
        if chosen is None:
            return stages, index
        # What is chained is another row, whatever becomes of this element.
        if step[0] not in ONLY_SINGLE:
            goal = acted(goal, book, step, chosen, index)
        stages.append(goal)
    return stages, None


def view_of(target, rows):
    """Return what a pick sees of the rows of an element: a tuple (told, copied, place).

    For a pick by "at", told is the number of rows that are surely ahead of what is
    meant; for another one, whether it surely misses. copied tells of the rows that
    are still to be compared with the place of what is meant.
    """
    pick, owners, wanted, fact = target
    is_own = len(wanted) > 0 or not is_single(pick)
    if place_of(pick) is not None:
        if is_own:
            return (held_rows(target, rows)[0], [], ())
        return (0, [copied_by(row) for row in rows], place_of_meant(target))
    reached = [rows[at] for at in picked(bare(pick), rows)]
    if is_own:
        return (held_many(wanted, reached) < len(wanted), [], ())
    return (False, [copied_by(row) for row in reached], place_of_meant(target))


def views_at(own, stages, home, rows, index):
    """Return the list of the tuples (step, number, is_place, view) of the picks of a step."""
    book = rows if home == "book" else []
    return [(index, number, place_of(target[0]) is not None, view_of(target, rows_of(target[0], stages[index], book)))
            for number, target in enumerate(own[index])]


def views_of(own, stages, home, rows, many):
    """Return the list of the tuples (step, number, is_place, view) of the picks of the first steps, so many."""
    return [view for index in range(many) for view in views_at(own, stages, home, rows, index)]


def misses_in(views, spot):
    """Return the ascending list of the steps that an element at a spot makes miss by a pick that is no "at"."""
    found = {}
    for step, number, is_place, (is_missed, copied, place) in views:
        if not is_place and (is_missed or any([numbers + ((0, spot),) > place for numbers in copied])):
            found[step] = True
    return list(found)


def adds_in(views, spot):
    """Return the dict from the picks by "at" to the numbers of rows ahead of what is meant that come of an element."""
    return {(step, number): many + len([numbers for numbers in copied if numbers + ((0, spot),) < place])
            for step, number, is_place, (many, copied, place) in views if is_place}
