"""Steps: what they are, and what one of them does to a goal."""

from scriptpicks.acts import acted
from scriptpicks.atoms import chained
from scriptpicks.errors import NotPicked, Stuck, Wrong
from scriptpicks.marks import marked, unmarked
from scriptpicks.picks import bare, home_of, is_pick, is_single, picked
from scriptpicks.words import is_name

KINDS = ("turn", "part", "drop", "call", "copy", "chain", "close")
NAMING = ("call", "copy", "chain")
ONLY_SINGLE = ("chain", "close")


def picks_in(kind):
    """Return how many picks a step of a kind has."""
    return 2 if kind == "chain" else 1


def is_pick_for(kind, thing):
    """Return whether a value is a pick that may stand in a step of a kind."""
    if not is_pick(thing):
        return False
    if home_of(thing) == "book" and kind != "copy":
        return False
    return is_single(thing) or kind not in ONLY_SINGLE


def is_step(thing):
    """Return whether a value is a step."""
    if not isinstance(thing, tuple) or len(thing) == 0 or not isinstance(thing[0], str):
        return False
    kind = thing[0]
    if kind not in KINDS:
        return False
    behind = 1 + picks_in(kind)
    if not all([is_pick_for(kind, part) for part in thing[1:behind]]):
        return False
    if kind in NAMING:
        return len(thing) == behind + 1 and is_name(thing[behind])
    return len(thing) == behind


def picks_of(step):
    """Return the list of the picks of a step."""
    return list(step[1:1 + picks_in(step[0])])


def with_pick(step, number, pick):
    """Return the step with another pick in the place of the one with this number."""
    result = step[:number + 1] + (pick,) + step[number + 2:]
    if not is_step(result):
        raise Wrong(2)
    return result


def reached_by(pick, goal, book):
    """Return the list of the indexes of the rows that a pick picks in its home."""
    return picked(bare(pick), book if home_of(pick) == "book" else goal)


def chosen_by(goal, book, step):
    """Return the list of what each pick of a step picks, or raise NotPicked."""
    picks = picks_of(step)
    chosen = [reached_by(pick, goal, book) for pick in picks]
    for number, pick in enumerate(picks):
        if is_single(pick) and chosen[number] == []:
            raise NotPicked(number)
    return chosen


def can_chain(one, other):
    """Return whether two facts have one atom each, and these can be chained."""
    return len(one) == 1 and len(other) == 1 and chained(one[0], other[0]) is not None


def is_stuck(goal, step, chosen, aim):
    """Return whether a step is stuck on the rows that it picked."""
    if step[0] not in ONLY_SINGLE:
        return False
    facts = [goal[indexes[0]][1] for indexes in chosen]
    if step[0] == "chain":
        return not can_chain(facts[0], facts[1])
    return aim not in facts[0]


def done(goal, book, step, aim):
    """Return the goal behind a step, and the list of the indexes that each of its picks picked."""
    chosen = chosen_by(goal, book, step)
    if is_stuck(goal, step, chosen, aim):
        raise Stuck()
    # Plain rows have no owners; any step number will do, as the marks are taken off again.
    rows = acted(marked("goal", goal), marked("book", book), step, chosen, 0)
    return unmarked(rows), chosen
