"""Alike: whether two scripts do the same under all edits that a licence allows."""

from scriptpicks.errors import HasPlace, Unlike
from scriptpicks.lives import effect, life
from scriptpicks.options import joined
from scriptpicks.twins import last_goal, shortest_pair, weighed


def check_places(script):
    """Raise HasPlace for the first step of a script with a pick by "at"."""
    places = script.places()
    if places != []:
        raise HasPlace(places[0][0])


def parting_edits(one, other, licence):
    """Return a shortest list of edits that shows that the scripts of two Helds are not alike, or None."""
    if not one.start() == other.start():
        raise Unlike()
    check_places(one.script())
    check_places(other.script())
    table = {}
    if last_goal(one, table) != last_goal(other, table):
        return []
    alone, stands = weighed([one, other], licence)
    pair = shortest_pair(stands, alone)
    if pair is None:
        return None if alone is None else list(alone)
    return joined(licence, [edits for edits in pair if edits != []])


def are_alike(one, other, licence):
    """Return whether the scripts of two Helds are alike under a licence."""
    return parting_edits(one, other, licence) is None


def profile(held, home, gap, row):
    """Return the steps that a newcomer makes miss, and the rows of the last goal that come of it."""
    return (effect(held, home, gap, row)[0], life(held, home, gap, row)[-1])
