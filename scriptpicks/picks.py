"""Picks: what they are, and which rows they pick."""

from scriptpicks.atoms import fits_fact, is_pattern, narrower, patterns_of
from scriptpicks.words import is_integer, is_name

ANYTHING = ("", "", "")


def is_bare_pick(thing):
    """Return whether a value is a pick without "book"."""
    if not isinstance(thing, tuple) or not 1 <= len(thing) <= 2 or not isinstance(thing[0], str):
        return False
    if len(thing) == 1:
        return thing[0] == "last"
    kind, part = thing
    if kind == "name":
        return is_name(part)
    if kind == "at":
        return is_integer(part) and part >= 0
    return kind in ("like", "all") and is_pattern(part)


def is_pick(thing):
    """Return whether a value is a pick."""
    if isinstance(thing, tuple) and len(thing) == 2 and isinstance(thing[0], str) and thing[0] == "book":
        return is_bare_pick(thing[1])
    return is_bare_pick(thing)


def home_of(pick):
    """Return the home at which a pick looks."""
    return "book" if pick[0] == "book" else "goal"


def bare(pick):
    """Return the pick without "book"."""
    return pick[1] if pick[0] == "book" else pick


def is_single(pick):
    """Return whether a pick picks one row at most."""
    return bare(pick)[0] != "all"


def name_of(pick):
    """Return the name in a pick by name, or None."""
    inner = bare(pick)
    return inner[1] if inner[0] == "name" else None


def place_of(pick):
    """Return the integer in a pick by "at", or None."""
    inner = bare(pick)
    return inner[1] if inner[0] == "at" else None


def pattern_of(pick):
    """Return the pattern in a "like" or an "all", or None."""
    inner = bare(pick)
    return inner[1] if inner[0] in ("like", "all") else None


def suits(pick, at, row):
    """Return whether a bare pick picks a row with this index if none behind it suits it."""
    if pick[0] == "name":
        return row[0] == pick[1]
    if pick[0] == "at":
        return at == pick[1]
    return pick[0] == "last" or fits_fact(pick[1], row[1])


def picked(pick, rows):
    """Return the ascending list of the indexes of the rows that a bare pick picks."""
    suited = [at for at, row in enumerate(rows) if suits(pick, at, row)]
    return suited if pick[0] == "all" else suited[-1:]


def picks_to(rows, at):
    """Return the ascending list of the different single picks that pick just the row with this index."""
    name, fact = rows[at]
    patterns = sorted(set([pattern for atom in fact for pattern in patterns_of(atom)]))
    tried = [("name", name), ("at", at), ("last",)] + [("like", pattern) for pattern in patterns]
    return sorted([pick for pick in tried if picked(pick, rows) == [at]])


def last_as_like(pick):
    """Return "last" as the "like" that picks the same row, and every other pick as it is."""
    return ("like", ANYTHING) if pick == ("last",) else pick


def asked_of(pick):
    """Return the pattern that each row fits that a bare pick may pick, and no narrower one."""
    return pick[1] if pick[0] in ("like", "all") else ANYTHING


def surely(one, other):
    """Return whether, whatever the rows are, the other bare pick picks each row that the one picks."""
    if last_as_like(one) == last_as_like(other):
        return True
    # Rows put ahead or behind, other names and other facts lead any other single
    # pick away from the row; an "all" is led away by facts alone.
    return other[0] == "all" and narrower(asked_of(one), other[1])
