"""Atoms, facts, patterns and rows: what they are, how they turn, fit and chain."""

from scriptpicks.words import RELATIONS, fresh, is_name, is_relation

TURNED = {"": "", "eq": "eq", "lt": "gt", "gt": "lt"}


def is_atom(thing):
    """Return whether a value is an atom."""
    if not isinstance(thing, tuple) or len(thing) != 3:
        return False
    return is_relation(thing[0]) and is_name(thing[1]) and is_name(thing[2])


def is_fact(thing):
    """Return whether a value is a fact."""
    if not isinstance(thing, tuple) or not 1 <= len(thing) <= 2:
        return False
    return all([is_atom(atom) for atom in thing])


def is_blank(thing):
    """Return whether a value is the empty string, which stands for anything."""
    return isinstance(thing, str) and thing == ""


def is_pattern(thing):
    """Return whether a value is a pattern."""
    if not isinstance(thing, tuple) or len(thing) != 3:
        return False
    if not is_blank(thing[0]) and not is_relation(thing[0]):
        return False
    return all([is_blank(part) or is_name(part) for part in thing[1:]])


def is_row(thing):
    """Return whether a value is a row."""
    return isinstance(thing, tuple) and len(thing) == 2 and is_name(thing[0]) and is_fact(thing[1])


def turned(atom):
    """Return the atom that says the same from the other side."""
    relation, left, right = atom
    return (TURNED[relation], right, left)


def turned_fact(fact):
    """Return the fact of the turned atoms."""
    return tuple([turned(atom) for atom in fact])


def turned_pattern(pattern):
    """Return the pattern that the turned atoms fit."""
    relation, left, right = pattern
    return (TURNED[relation], right, left)


def fits(pattern, atom):
    """Return whether an atom fits a pattern."""
    relation, left, right = pattern
    # This is asked more often than all else: so it is written out.
    return relation in ("", atom[0]) and left in ("", atom[1]) and right in ("", atom[2])


def fits_fact(pattern, fact):
    """Return whether an atom of a fact fits a pattern."""
    for atom in fact:
        if fits(pattern, atom):
            return True
    return False


def chained_relation(one, other):
    """Return the relation to which two relations are chained, or None."""
    if one == "eq":
        return other
    if other == "eq" or other == one:
        return one
    return None


def chained(one, other):
    """Return the atom to which two atoms are chained, or None."""
    relation = chained_relation(one[0], other[0])
    if relation is None or one[2] != other[1]:
        return None
    return (relation, one[1], other[2])


def narrower(one, other):
    """Return whether each atom that fits the one pattern fits the other."""
    return all([wide in ("", narrow) for narrow, wide in zip(one, other)])


def both(one, other):
    """Return the pattern that just the atoms fit that fit both patterns, or None."""
    for first, second in zip(one, other):
        if first != "" and second != "" and first != second:
            return None
    return tuple([first if first != "" else second for first, second in zip(one, other)])


def patterns_of(atom):
    """Return the ascending list of the patterns that an atom fits."""
    relation, left, right = atom
    # The empty string is less than every other one, so the list is ascending as it is made.
    return [(one, two, three) for one in ("", relation) for two in ("", left) for three in ("", right)]


def known_patterns(atom, known):
    """Return the tuple of those of the known patterns that an atom fits."""
    return tuple([pattern for pattern in patterns_of(atom) if pattern in known])


def class_of(atom, known):
    """Return what tells the class of an atom: the known patterns that it fits, and those that the turned one fits."""
    return (known_patterns(atom, known), known_patterns(turned(atom), known))


def atoms_with(names):
    """Return the ascending list of the atoms with names of an ascending list."""
    return [(relation, left, right) for relation in sorted(RELATIONS) for left in names for right in names]


def names_in(patterns):
    """Return the list of the left and right names that stand in patterns."""
    return [part for pattern in patterns for part in pattern[1:] if part != ""]


def atoms_of(patterns):
    """Return the ascending list of the least atoms, one for each class that the patterns tell apart."""
    names = names_in(patterns)
    names = sorted(set(names + [fresh(names)]))
    known = {pattern: True for pattern in patterns}
    least = {}
    for atom in atoms_with(names):
        least.setdefault(class_of(atom, known), atom)
    # The atoms are tried in ascending order, and a dict keeps the order of its keys.
    return list(least.values())
