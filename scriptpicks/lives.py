"""Lives: what comes of newcomers, and what they do to the steps."""

from scriptpicks.classes import gaps_of, newcomers
from scriptpicks.edits import put_row
from scriptpicks.solos import adds_in, misses_in, numbers_of, own_targets, spot_of_gap, stages_of, views_of
from scriptpicks.words import HOMES


def marked_newcomer(row):
    """Return the list of the marked row for a newcomer."""
    name, fact, roots = put_row(row, 0)
    return [(name, fact, roots, roots)]


def since_of(row):
    """Return the number of the step that put a marked row behind all, or None."""
    numbers = numbers_of(row[2][0])
    return None if numbers == () else numbers[0]


def life(held, home, gap, row):
    """Return the list of the lists of the goal's rows that come of a newcomer, as tuples (name, fact, since)."""
    stages = stages_of(held, own_targets(held, home, None), home, marked_newcomer(row))[0]
    return [[(told[0], told[1], since_of(told)) for told in rows] for rows in stages]


def views_of_newcomer(held, own, home, row):
    """Return what the picks see of a newcomer, at whatever gap of the home it is put in."""
    rows = marked_newcomer(row)
    stages = stages_of(held, own, home, rows)[0]
    return views_of(own, stages, home, rows, len(own))


def effect(held, home, gap, row):
    """Return the steps that a newcomer makes miss, and the dict of what it adds for the picks by "at"."""
    views = views_of_newcomer(held, own_targets(held, home, None), home, row)
    return (misses_in(views, spot_of_gap(gap)), adds_in(views, spot_of_gap(gap)))


def listed(adds):
    """Return the ascending list of the tuples (step, number, rows) for the dict of what is added."""
    return [(step, number, adds[(step, number)]) for step, number in adds]


def lives_at(held, licence, home, gaps):
    """Return the list of the tuples (home, gap, row, misses, adds) of the newcomers at some gaps of a home."""
    own = own_targets(held, home, None)
    result = []
    for row in newcomers(held, licence) if gaps != [] else []:
        views = views_of_newcomer(held, own, home, row)
        for gap in gaps:
            spot = spot_of_gap(gap)
            result.append((home, gap, row, misses_in(views, spot), listed(adds_in(views, spot))))
    return result


def lives(held, licence):
    """Return the ascending list of the tuples (home, gap, row, misses, adds) of all newcomers that are allowed."""
    return sorted([told for home in HOMES for told in lives_at(held, licence, home, gaps_of(held, licence, home))])


def harmless(held, licence, home, gap):
    """Return the ascending list of the newcomers that make no step miss and add nothing at a gap."""
    gaps = [allowed for allowed in gaps_of(held, licence, home) if allowed == gap]
    return [row for place, at, row, misses, adds in lives_at(held, licence, home, gaps)
            if misses == [] and all([rows == 0 for step, number, rows in adds])]
