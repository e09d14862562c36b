"""Strays: which steps can be the first to miss or to be lost, and shortest lists of edits that make them so."""

from scriptpicks.options import joined, options_of
from scriptpicks.sums import Sums

# Ascending, as they are told.
FATES = ("lost", "misses")


def way_back(came, state):
    """Return the list of the edits, one list for each element, that led to a state from the first one."""
    chosen = []
    while came[state] is not None:
        state, edits = came[state]
        if edits != []:
            chosen.append(edits)
    return chosen[::-1]


def shortest_way(sums):
    """Return the lists of edits of the elements that lead to an end with fewest edits in all, or None."""
    came = {}
    waiting = {0: [(sums.first(), None)]}
    many = 0
    # The states are come to in the order of the numbers of edits that they take.
    while waiting != {}:
        left = waiting.pop(many, [])
        while left != []:
            state, ahead = left.pop()
            if state in came:
                continue
            came[state] = ahead
            if sums.is_end(state):
                return way_back(came, state)
            for reached, edits in sums.next_to(state):
                if reached not in came and edits == []:
                    left.append((reached, (state, edits)))
                elif reached not in came:
                    waiting.setdefault(many + len(edits), []).append((reached, (state, edits)))
        many = many + 1
    return None


def first_edit(held, licence, step, word):
    """Return a shortest list of edits with which a step is the first to miss, or to be lost, or None."""
    found = shortest_way(Sums(held, options_of(held, licence), step, word))
    return None if found is None else joined(licence, found)


def fates_of(held, options, step):
    """Return the ascending list of the words for what can come to a step first."""
    return [word for word in FATES if shortest_way(Sums(held, options, step, word)) is not None]


def fates(held, licence):
    """Return the list, for each step, of the ascending list of the words for what can come to it first."""
    options = options_of(held, licence)
    return [fates_of(held, options, step) for step in range(len(held.script()))]


def is_sure(held, licence, step):
    """Return whether nothing can come to a step first."""
    return fates_of(held, options_of(held, licence), step) == []


def is_steady(held, licence):
    """Return whether all steps are sure."""
    return all([words == [] for words in fates(held, licence)])
