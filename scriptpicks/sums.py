"""Sums: the states through which a search for edits goes under which a step is the first to miss."""

from scriptpicks.errors import TooMany
from scriptpicks.options import options_of, spots_of
from scriptpicks.words import is_index, is_integer


def moves_for(options, step, word):
    """Return the dict from the tuples (adds, is_hit) of the options at a spot that fit a step to shortest edits.

    What loses this step or one ahead, or makes one ahead miss, does not fit; but
    for the word "lost" what loses this step fits, and is what hits it.
    """
    last = step if word == "misses" else step - 1
    moves = {}
    for (lost, misses, adds), edits in options.items():
        if (lost is None or lost > last) and not any([miss < step for miss in misses]):
            is_hit = step in misses if word == "misses" else lost == step
            told = (tuple([rows for index, number, rows in adds if index <= last]), is_hit)
            if told not in moves or len(edits) < len(moves[told]):
                moves[told] = edits
    return moves


def rest_ahead(moves, rest):
    """Return the rests ahead of a row, with those behind it: one for each pick by "at"."""
    return tuple([many + max([-adds[place] for adds, is_hit in moves]) for place, many in enumerate(rest)])


def is_hit_at_end(state, at_end, ahead):
    """Return whether a state at the end tells that a step is hit first; ahead is how many sums are of earlier steps."""
    at, sums, was_hit = state
    if at < at_end or any([total != 0 for total in sums[:ahead]]):
        return False
    return was_hit or any([total != 0 for total in sums[ahead:]])


class Sums:
    """The states of a step: which there are, and how one comes from one to the next.

    For the word "misses" they are those of the document. For the word "lost" they
    have the sums of the earlier steps alone, and the last part is whether what is
    lost is what the step meant.
    """

    def __init__(self, held, options, step, word):
        self.row_spots = [is_row for is_row, home, number in spots_of(held.start())]
        self.moves = [moves_for(told, step, word) for told in options]
        places = held.script().places()
        self.ahead = len([index for index, number in places if index < step])
        many = len([index for index, number in places if index <= step])
        self.rests = [tuple([0 for place in range(many if word == "misses" else self.ahead)])]
        for is_row, moves in reversed(list(zip(self.row_spots, self.moves))):
            self.rests.append(rest_ahead(moves, self.rests[-1]) if is_row else self.rests[-1])
        self.rests.reverse()

    def first(self):
        """Return the state from which all others come."""
        return (0, tuple([0 for rest in self.rests[0]]), False)

    def told(self, at, sums, was_hit):
        """Return the state as it is told, or None if it is left out."""
        rest = self.rests[at]
        if any([sums[place] > rest[place] for place in range(self.ahead)]):
            return None
        # A sum of the step's own picks never comes back to 0 either: all such sums are one.
        return (at, tuple([min(total, most + 1) for total, most in zip(sums, rest)]), was_hit)

    def next_to(self, state):
        """Return the list of the tuples (state, edits) to which one comes from a state at once, by shortest edits."""
        at, sums, was_hit = state
        if at == len(self.moves):
            return []
        behind = at + 1 if self.row_spots[at] else at
        moves = self.moves[at]
        found = [(self.told(behind, tuple([one + more for one, more in zip(sums, adds)]), was_hit or is_hit),
                  moves[(adds, is_hit)]) for adds, is_hit in moves]
        if not self.row_spots[at]:
            found.append((self.told(at + 1, sums, was_hit), []))
        return [(reached, edits) for reached, edits in found if reached is not None]

    def is_end(self, state):
        """Return whether a state tells that the step is the first to miss, or to be lost."""
        return is_hit_at_end(state, len(self.moves), self.ahead)

    def is_state(self, thing):
        """Return whether a value is a state, told as it is told here."""
        if not isinstance(thing, tuple) or len(thing) != 3:
            return False
        at, sums, was_hit = thing
        if not is_index(at, len(self.rests)) or not isinstance(was_hit, bool) or not isinstance(sums, tuple):
            return False
        if len(sums) != len(self.rests[at]) or not all([is_integer(total) for total in sums]):
            return False
        return self.told(at, sums, was_hit) == thing


def states(held, licence, step, *, most=20000):
    """Return the ascending list of the first state and of all to which one comes from it."""
    sums = Sums(held, options_of(held, licence), step, "misses")
    found, left = {sums.first(): True}, [sums.first()]
    while left != []:
        state = left.pop()
        for reached, edits in sums.next_to(state):
            if reached not in found:
                found[reached] = True
                left.append(reached)
        if len(found) > most:
            raise TooMany(most)
    return sorted(found)


def is_closed(held, licence, step, thing):
    """Return whether a value is a list of states, each once, with the first one and all that come from its states."""
    sums = Sums(held, options_of(held, licence), step, "misses")
    if not isinstance(thing, list) or not all([sums.is_state(state) for state in thing]):
        return False
    there = {state: True for state in thing}
    if len(there) < len(thing) or sums.first() not in there:
        return False
    return all([reached in there for state in thing for reached, edits in sums.next_to(state)])


def can_miss(held, step, state):
    """Return whether a state tells that the step is the first to miss."""
    ahead = len([index for index, number in held.script().places() if index < step])
    return is_hit_at_end(state, len(spots_of(held.start())), ahead)
