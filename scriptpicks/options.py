"""Options: what may be done to a start at each of its spots, with a shortest list of edits that does it."""

from scriptpicks.changes import changes
from scriptpicks.lives import lives


def spots_of(start):
    """Return the list of the spots of a start, as tuples (is_row, home, number)."""
    spots = []
    for home in ("goal", "book"):
        many = len(start.rows(home))
        for number in range(many):
            spots = spots + [(False, home, number), (True, home, number)]
        spots.append((False, home, many))
    return spots


def options_of(held, licence):
    """Return the list, for each spot, of the dict of its options.

    The dict leads from the different tuples (lost, misses, adds) of what an
    element may do there to a shortest list of edits of just this element.
    """
    newcomers_at = {}
    for home, gap, row, misses, adds in lives(held, licence):
        newcomers = newcomers_at.setdefault((home, gap), {})
        newcomers.setdefault((None, tuple(misses), tuple(adds)), [("put", home, gap, row)])
    options = []
    for is_row, home, number in spots_of(held.start()):
        told = {} if is_row else newcomers_at.get((home, number), {})
        # The changes are ordered by the numbers of their edits: the first one is a shortest one.
        for rows, edits, lost, misses, adds in changes(held, licence, home, number) if is_row else []:
            told.setdefault((lost, tuple(misses), tuple(adds)), edits)
        options.append(told)
    return options


def is_at_back(licence, edits):
    """Return whether edits put a row into a home where rows may be put behind all others only."""
    return edits[0][0] == "put" and licence.where(edits[0][1]) == "back"


def joined(licence, chosen):
    """Return one list of edits for lists of edits of different elements, told in the order of their spots.

    Each of these lists is not empty, and is told with the indexes of a start in
    which just this element is edited.
    """
    edits, many = [], {}
    for told in chosen:
        if is_at_back(licence, told):
            sort, home, at, row = told[0]
            edits.append((sort, home, at + many.get(home, 0), row))
            many[home] = many.get(home, 0) + 1
    # What is done from behind leaves the indexes of the rows ahead as they are.
    for told in chosen[::-1]:
        if not is_at_back(licence, told):
            edits = edits + told
    return edits
