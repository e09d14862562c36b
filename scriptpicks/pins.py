"""Pins: which steps can miss at all, and shortest lists of edits that make them miss."""

from scriptpicks.options import options_of


def missed_by(misses, adds):
    """Return the list of the steps that an element makes miss alone."""
    # One element is enough: a sum that is not 0 has a part that is not 0.
    return list(misses) + [step for step, number, rows in adds if rows != 0]


def miss_edits(held, licence):
    """Return the dict from the steps that can miss to a shortest list of edits with which they do."""
    found = {}
    for options in options_of(held, licence):
        for (lost, misses, adds), edits in options.items():
            for step in missed_by(misses, adds):
                if step not in found or len(edits) < len(found[step]):
                    found[step] = edits
    return found


def loose(held, licence):
    """Return the ascending list of the steps that miss under some edits."""
    return sorted(miss_edits(held, licence))


def miss_edit(held, licence, step):
    """Return a shortest list of edits with which a step misses, or None."""
    found = miss_edits(held, licence)
    return list(found[step]) if step in found else None


def enough(held, licence, pins):
    """Return whether under no edits a step misses that has no pin."""
    return all([step in pins for step in loose(held, licence)])


def pin_edit(held, licence, pins):
    """Return a shortest list of edits under which a step misses that has no pin, or None."""
    found = miss_edits(held, licence)
    left = [found[step] for step in found if step not in pins]
    return list(min(left, key=len)) if left != [] else None
