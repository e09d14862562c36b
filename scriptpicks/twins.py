"""Twins: what elements of an edited start do in the held runs of two scripts, alone and two of them together.

The scripts have no picks by "at". A twin is a tuple (views, places). views tells
for each script what its picks see of an element, or has None if it is lost by
it. places tells for each row of it in the last goals, if these rows are alike,
the tuple of where it stands in the one and in the other; otherwise it is None.
"""

from scriptpicks.atoms import atoms_with, class_of, names_in, turned
from scriptpicks.changes import marked_rows, ways_to_rows
from scriptpicks.classes import gaps_of
from scriptpicks.lives import marked_newcomer
from scriptpicks.solos import (
    copied_by, is_gap, is_made, misses_in, own_targets, place_of_made, spot_of_gap, spot_of_row, stages_of, views_of)
from scriptpicks.steps import NAMING
from scriptpicks.targets import flat
from scriptpicks.words import HOMES, fresh

# Chained rows are of no element: their places tell of no spot in a home.
NOWHERE = ("", -1)


def telling_names(scripts, licence):
    """Return the ascending list of the names that tell apart what scripts do to all names that are not barred."""
    asked = [name for script in scripts for name in script.names()]
    # A name that a step gives does not show whether it reached the row: so the fresh one is none of these.
    given = [step[-1] for script in scripts for step in script.steps() if step[0] in NAMING]
    barred = licence.names()
    return sorted(set([name for name in asked if name not in barred] + [fresh(asked + given + barred)]))


def telling_atoms(licence, patterns):
    """Return a list of atoms, one for each class of the patterns, that are not barred.

    Where a class has one, it is an atom that a turn changes.
    """
    names = names_in(patterns)
    # An atom like ("eq", "a", "a") does not show whether a step turned it: so there are two fresh names.
    names = names + [fresh(names)]
    names = sorted(set(names + [fresh(names)]))
    known = {pattern: True for pattern in patterns}
    telling = {}
    for atom in atoms_with(names):
        told = class_of(atom, known)
        if told not in telling or telling[told] == turned(telling[told]):
            telling[told] = atom
    return [telling[told] for told in telling if not licence.bars(telling[told])]


def views_and_last(held, own, home, rows):
    """Return what the picks see of an element, or None if it loses a step, and its rows of the last goal."""
    stages, lost = stages_of(held, own, home, rows)
    if lost is not None:
        return None, []
    return views_of(own, stages, home, rows, len(own)), stages[-1]


def shown(rows):
    """Return the names, facts and roots of marked rows."""
    return [(name, fact, roots) for name, fact, owners, roots in rows]


def code_of(owner, codes):
    """Return the code of the root of an atom; codes has those of the atoms that the steps chained."""
    numbers = flat(owner)
    return codes[numbers[-1]] if is_made(owner) else numbers[-3:]


def codes_of_made(held, table):
    """Return the list, for each step, of the code of the root of the atom that it chained, or None.

    Two roots are equal if their codes are. A root may be twice as long as those
    of which it was chained: so the codes are compared. table has those of the
    pairs of roots that were chained, and gets the new ones.
    """
    codes = []
    for step, targets in zip(held.script().steps(), held.targets()):
        code = None
        if step[0] == "chain":
            pair = tuple([code_of(target[1][0], codes) for target in targets])
            code = table.setdefault(pair, len(table))
        codes.append(code)
    return codes


def last_goal(held, table):
    """Return the names, facts and codes of the roots of the last goal in the run of the start itself."""
    codes = codes_of_made(held, table)
    return [(name, fact, tuple([code_of(owner, codes) for owner in owners]))
            for name, fact, owners, roots in held.goals([])[-1]]


def twin_of(helds, owns, home, rows):
    """Return the twin of an element that begins as these marked rows."""
    views, last = views_and_last(helds[0], owns[0], home, rows)
    other_views, other_last = views_and_last(helds[1], owns[1], home, rows)
    places = None
    if shown(last) == shown(other_last):
        places = [(copied_by(one), copied_by(other)) for one, other in zip(last, other_last)]
    return (views, other_views), places


def own_of_both(helds, home, number):
    """Return for each of two Helds the targets with just what comes of a row of the start, or of a newcomer."""
    return [own_targets(held, home, number) for held in helds]


def patterns_of_both(helds, licence):
    """Return the list of the patterns of two scripts and a licence."""
    return helds[0].script().patterns() + helds[1].script().patterns() + licence.patterns()


def twins_of_newcomers(helds, licence, names):
    """Yield the tuples (home, spot, twin, edits) of the newcomers at all gaps that are allowed."""
    atoms = telling_atoms(licence, patterns_of_both(helds, licence))
    facts = [(atom,) for atom in atoms] + [(one, other) for one in atoms for other in atoms]
    rows = [(name, fact) for name in names for fact in facts]
    for home in HOMES:
        gaps = gaps_of(helds[0], licence, home)
        owns = own_of_both(helds, home, None)
        for row in rows if gaps != [] else []:
            twin = twin_of(helds, owns, home, marked_newcomer(row))
            for gap in gaps:
                yield (home, spot_of_gap(gap), twin, [("put", home, gap, row)])


def twins_of_changes(helds, licence, names):
    """Yield the tuples (home, spot, twin, edits) of the rows of the start, as they are and changed."""
    start = helds[0].start()
    atoms = telling_atoms(licence, patterns_of_both(helds, licence) + [start.aim])
    for home in HOMES:
        for number, row in enumerate(start.rows(home)):
            owns = own_of_both(helds, home, number)
            ways = ways_to_rows(row, licence.sorts(home, number), names, atoms, home, number)
            for rows in ways:
                twin = twin_of(helds, owns, home, marked_rows(home, number, rows))
                yield (home, spot_of_row(number), twin, ways[rows])


def twins_of_all(helds, licence):
    """Yield the tuples (home, spot, twin, edits) of all that may be at the spots of the start."""
    names = telling_names([held.script() for held in helds], licence)
    yield from twins_of_changes(helds, licence, names)
    yield from twins_of_newcomers(helds, licence, names)


def stands_of_made(helds):
    """Return the dict for the chained rows of the last goals, which no edits change that lose nothing."""
    goals = [held.goals([])[-1] for held in helds]
    owners = [[row[2][0] for row in goal if is_made(row[2][0])] for goal in goals]
    return {NOWHERE + (place_of_made(one), place_of_made(other)): [] for one, other in zip(owners[0], owners[1])}


def shorter(one, other):
    """Return the shorter one of two lists of edits; the first one may be None."""
    return other if one is None or len(other) < len(one) else one


def is_kept(views, spot):
    """Return whether an element at a spot of its home loses no step and makes none miss."""
    return views is not None and misses_in(views, spot) == []


def weighed(helds, licence):
    """Return shortest edits of one element that part two scripts, or None, and the dict of how rows of others stand.

    The dict leads from the tuples (home, spot, place, place) of the rows in the
    two last goals to shortest edits of their element. It is not complete if one
    edit is enough: no fewer can part scripts that the start itself does not part.
    """
    alone, stands = None, stands_of_made(helds)
    for home, spot, (views, places), edits in twins_of_all(helds, licence):
        kept = [is_kept(told, spot) for told in views]
        if kept[0] != kept[1] or (kept[0] and places is None):
            alone = shorter(alone, edits)
            if len(alone) == 1:
                break
        elif kept[0]:
            for place in places:
                stand = (home, spot) + place
                stands[stand] = shorter(stands.get(stand), edits)
    return alone, stands


def can_be_two(one, other):
    """Return whether two rows that stand so can be of two elements, the one being ahead of the other."""
    # Two newcomers may be at one gap, but only one element is where a row of the start was.
    return one[:2] < other[:2] or (one[:2] == other[:2] and one[:2] != NOWHERE and is_gap(one[1]))


def place_in(stand, which, order):
    """Return the place of a row in one of the last goals; order is for the elements that are at one gap."""
    return stand[2 + which] + (((0, stand[1], order),) if stand[:2] != NOWHERE else ())


def are_parted(one, other):
    """Return whether two rows stand in another order in the one last goal than in the other."""
    return len(set([place_in(one, which, 0) < place_in(other, which, 1) for which in (0, 1)])) == 2


def shortest_pair(stands, alone):
    """Return the lists of edits of two elements that part two scripts with fewer edits than alone has, or None."""
    many = None if alone is None else len(alone)
    found = None
    for one in stands:
        for other in stands:
            total = len(stands[one]) + len(stands[other])
            if (many is None or total < many) and can_be_two(one, other) and are_parted(one, other):
                many, found = total, [stands[one], stands[other]]
    return found
