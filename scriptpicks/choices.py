"""Choices: the picks of the same row that no edits make miss."""

from scriptpicks.changes import marked_rows, ways_to_rows
from scriptpicks.classes import allowed_atoms, gaps_of, names_of, newcomers, patterns_asked
from scriptpicks.held import Held
from scriptpicks.lives import marked_newcomer
from scriptpicks.picks import home_of, is_single, picks_to
from scriptpicks.runs import picks, walk
from scriptpicks.scripts import Script
from scriptpicks.solos import adds_in, misses_in, own_targets, spot_of_gap, spot_of_row, stages_of, views_at
from scriptpicks.steps import picks_of, with_pick
from scriptpicks.words import HOMES


def looking_alike(pick, other):
    """Return a bare pick that looks at the home at which another one looks."""
    return ("book", other) if home_of(pick) == "book" else other


def plain_step(step, chosen):
    """Return a step in which each single pick is by "at"; chosen has the indexes that each of its picks picked."""
    result = step
    for number, pick in enumerate(picks_of(step)):
        if is_single(pick):
            result = with_pick(result, number, looking_alike(pick, ("at", chosen[number][0])))
    return result


def plain_held(held, step, number, pick):
    """Return a Held of the steps up to a step, with a pick in its place, and each other single pick by "at".

    In the held run a pick acts on what it meant, however it says so; and the
    fewer names and patterns there are, the fewer rows are to be tried.
    """
    chosen = picks(held.start(), held.script())
    steps = [plain_step(held.script()[index], chosen[index]) for index in range(step + 1)]
    steps[step] = with_pick(steps[step], number, pick)
    return Held(held.start(), Script(steps))


def view_of_last(held, own, home, rows, number):
    """Return a list of what a pick of the last step sees of an element, which is empty if a step is lost."""
    stages, lost = stages_of(held, own, home, rows)
    if lost is not None:
        return []
    return views_at(own, stages, home, rows, len(own) - 1)[number:number + 1]


def newcomer_misses(held, licence, number):
    """Return whether a newcomer makes a pick of the last step miss."""
    for home in HOMES:
        gaps = gaps_of(held, licence, home)
        own = own_targets(held, home, None)
        for row in newcomers(held, licence) if gaps != [] else []:
            views = view_of_last(held, own, home, marked_newcomer(row), number)
            for spot in [spot_of_gap(gap) for gap in gaps]:
                if misses_in(views, spot) != [] or any([rows != 0 for rows in adds_in(views, spot).values()]):
                    return True
    return False


def change_misses(held, licence, number, home, k):
    """Return whether a change of a row of the start makes a pick of the last step miss."""
    atoms = allowed_atoms(licence, patterns_asked(held, licence) + [held.start().aim])
    ways = ways_to_rows(held.start().row(home, k), licence.sorts(home, k), names_of(held, licence), atoms, home, k)
    own, spot = own_targets(held, home, k), spot_of_row(k)
    seen = [view_of_last(held, own, home, marked_rows(home, k, rows), number) for rows in ways]
    # The row as it is stands first.
    before = adds_in(seen[0], spot)
    return any([misses_in(views, spot) != [] or adds_in(views, spot) != before for views in seen if views != []])


def can_pick_miss(held, licence, step, number, pick):
    """Return whether some edits make a step miss by a pick, if it stands in the place of one with this number."""
    plain = plain_held(held, step, number, pick)
    if newcomer_misses(plain, licence, number):
        return True
    for home in HOMES:
        for k in range(len(held.start().rows(home))):
            if change_misses(plain, licence, number, home, k):
                return True
    return False


def picks_to_meant(held, step, number):
    """Return the ascending list of the picks that pick, in the run of the start, what a single pick picks."""
    start, script = held.start(), held.script()
    pick = picks_of(script[step])[number]
    goals = list(walk(start, script))
    rows = start.book() if home_of(pick) == "book" else goals[step]
    at = picks(start, script)[step][number][0]
    return [looking_alike(pick, other) for other in picks_to(rows, at)]


def choices(held, licence, step, number):
    """Return the ascending list of the picks of the row of a single one that no edits make miss in its place."""
    if not is_single(picks_of(held.script()[step])[number]):
        return []
    return [pick for pick in picks_to_meant(held, step, number) if not can_pick_miss(held, licence, step, number, pick)]


def least_choice(held, licence, step, number):
    """Return the least of the choices for a pick, or None if it has none."""
    if is_single(picks_of(held.script()[step])[number]):
        for pick in picks_to_meant(held, step, number):
            if not can_pick_miss(held, licence, step, number, pick):
                return pick
    return None


def mended_step(held, licence, index):
    """Return a step in which the least choices stand for the picks that can miss, and whether it is still loose."""
    step = held.script()[index]
    result, is_loose = step, False
    for number, pick in enumerate(picks_of(step)):
        if can_pick_miss(held, licence, index, number, pick):
            least = least_choice(held, licence, index, number)
            result = result if least is None else with_pick(result, number, least)
            is_loose = is_loose or least is None
    return result, is_loose


def mended(held, licence):
    """Return the Script in which the least choices stand for the picks that can miss, and its loose steps."""
    told = [mended_step(held, licence, index) for index in range(len(held.script()))]
    # A step is loose if one of its picks can miss: what the other picks say does not matter to it.
    return (Script([step for step, is_loose in told]), [index for index in range(len(told)) if told[index][1]])
