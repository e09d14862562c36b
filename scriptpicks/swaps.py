"""Swaps: which steps of a script may change places with the next one."""

from scriptpicks.alike import are_alike, check_places
from scriptpicks.errors import BadStep, Stopped
from scriptpicks.held import Held


def is_free(held, licence, index):
    """Return whether a script without picks by "at" is alike to that in which two of its steps are exchanged."""
    try:
        other = Held(held.start(), held.script().swapped(index))
    except (BadStep, Stopped):
        return False
    return are_alike(held, other, licence)


def may_swap(held, licence, index):
    """Return whether a step may change places with the next one."""
    script = held.script()
    script.check_index(index)
    script.check_index(index + 1)
    check_places(script)
    return is_free(held, licence, index)


def swaps(held, licence):
    """Return the ascending list of the indexes of the steps that may change places with the next one."""
    check_places(held.script())
    return [index for index in range(len(held.script()) - 1) if is_free(held, licence, index)]
