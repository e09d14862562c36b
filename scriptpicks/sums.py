"""Sums: the states through which a search for edits goes under which a step is the first to miss."""

from scriptpicks.changes import changes
from scriptpicks.errors import TooMany
from scriptpicks.lives import lives
from scriptpicks.words import is_index, is_integer


def spots_of(start):
    """Return the list of the spots of a start, as tuples (is_row, home, number)."""
    spots = []
    for home in ("goal", "book"):
        many = len(start.rows(home))
        for number in range(many):
            spots = spots + [(False, home, number), (True, home, number)]
        spots.append((False, home, many))
    return spots


def kinds_of_moves(held, licence):
    """Return the list, for each spot, of the different tuples (lost, misses, adds) of what may be there."""
    newcomers_at = {}
    for home, gap, row, misses, adds in lives(held, licence):
        newcomers_at.setdefault((home, gap), {})[(None, tuple(misses), tuple(adds))] = True
    kinds = []
    for is_row, home, number in spots_of(held.start()):
        if is_row:
            told = {(lost, tuple(misses), tuple(adds)): True
                    for rows, edits, lost, misses, adds in changes(held, licence, home, number)}
        else:
            told = newcomers_at.get((home, number), {})
        kinds.append(list(told))
    return kinds


def moves_for(kinds, step):
    """Return the list of the different tuples (adds, makes_miss), for a step, of what fits of the kinds at a spot.

    What loses this step or one ahead, or makes one ahead miss, does not fit.
    """
    moves = {}
    for lost, misses, adds in kinds:
        is_lost = lost is not None and lost <= step
        if not is_lost and not any([miss < step for miss in misses]):
            moves[(tuple([rows for index, number, rows in adds if index <= step]), step in misses)] = True
    return list(moves)


def rest_ahead(moves, rest):
    """Return the rests ahead of a row, with those behind it: one for each pick by "at"."""
    return tuple([many + max([-adds[place] for adds, makes_miss in moves]) for place, many in enumerate(rest)])


class Sums:
    """The states of a step: which there are, and how one comes from one to the next."""

    def __init__(self, held, licence, step):
        spots = spots_of(held.start())
        self.row_spots = [is_row for is_row, home, number in spots]
        self.moves = [moves_for(kinds, step) for kinds in kinds_of_moves(held, licence)]
        places = held.script().places()
        self.ahead = len([index for index, number in places if index < step])
        self.rests = [tuple([0 for index, number in places if index <= step])]
        for is_row, moves in reversed(list(zip(self.row_spots, self.moves))):
            self.rests.append(rest_ahead(moves, self.rests[-1]) if is_row else self.rests[-1])
        self.rests.reverse()

    def first(self):
        """Return the state from which all others come."""
        return (0, tuple([0 for rest in self.rests[0]]), False)

    def told(self, at, sums, has_missed):
        """Return the state as it is told, or None if it is left out."""
        rest = self.rests[at]
        if any([sums[place] > rest[place] for place in range(self.ahead)]):
            return None
        # A sum of the step's own picks never comes back to 0 either: all such sums are one.
        return (at, tuple([min(total, most + 1) for total, most in zip(sums, rest)]), has_missed)

    def next_to(self, state):
        """Return the list of the states to which one comes from a state at once."""
        at, sums, has_missed = state
        if at == len(self.moves):
            return []
        behind = at + 1 if self.row_spots[at] else at
        found = [self.told(behind, tuple([one + more for one, more in zip(sums, adds)]), has_missed or makes_miss)
                 for adds, makes_miss in self.moves[at]]
        if not self.row_spots[at]:
            found.append(self.told(at + 1, sums, has_missed))
        return [reached for reached in found if reached is not None]

    def is_state(self, thing):
        """Return whether a value is a state, told as it is told here."""
        if not isinstance(thing, tuple) or len(thing) != 3:
            return False
        at, sums, has_missed = thing
        if not is_index(at, len(self.rests)) or not isinstance(has_missed, bool) or not isinstance(sums, tuple):
            return False
        if len(sums) != len(self.rests[at]) or not all([is_integer(total) for total in sums]):
            return False
        return self.told(at, sums, has_missed) == thing


def states(held, licence, step, *, most=20000):
    """Return the ascending list of the first state and of all to which one comes from it."""
    sums = Sums(held, licence, step)
    found, left = {sums.first(): True}, [sums.first()]
    while left != []:
        state = left.pop()
        for reached in sums.next_to(state):
            if reached not in found:
                found[reached] = True
                left.append(reached)
        if len(found) > most:
            raise TooMany(most)
    return sorted(found)


def is_closed(held, licence, step, thing):
    """Return whether a value is a list of states, each once, with the first one and all that come from its states."""
    sums = Sums(held, licence, step)
    if not isinstance(thing, list) or not all([sums.is_state(state) for state in thing]):
        return False
    there = {state: True for state in thing}
    if len(there) < len(thing) or sums.first() not in there:
        return False
    return all([reached in there for state in thing for reached in sums.next_to(state)])


def can_miss(held, step, state):
    """Return whether a state tells that the step is the first to miss."""
    at, sums, has_missed = state
    ahead = len([index for index, number in held.script().places() if index < step])
    if at < len(spots_of(held.start())) or any([total != 0 for total in sums[:ahead]]):
        return False
    return has_missed or any([total != 0 for total in sums[ahead:]])
