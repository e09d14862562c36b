"""The names, atoms, facts and rows that tell apart all newcomers that a licence allows."""

from scriptpicks.atoms import atoms_of
from scriptpicks.words import fresh


def names_of(held, licence):
    """Return the ascending list of the names that tell apart all names that are not barred."""
    asked, barred = held.script().names(), licence.names()
    return sorted(set([name for name in asked if name not in barred] + [fresh(asked + barred)]))


def allowed_atoms(licence, patterns):
    """Return the ascending list of the atoms, one for each class of the patterns, that are not barred."""
    return [atom for atom in atoms_of(patterns) if not licence.bars(atom)]


def patterns_asked(held, licence):
    """Return the list of the patterns of the script and of the licence."""
    return held.script().patterns() + licence.patterns()


def facts_of(held, licence):
    """Return the ascending list of the facts of one or two of the atoms that are not barred."""
    atoms = allowed_atoms(licence, patterns_asked(held, licence))
    return sorted([(atom,) for atom in atoms] + [(one, other) for one in atoms for other in atoms])


def newcomers(held, licence):
    """Return the ascending list of the rows of these names and facts."""
    facts = facts_of(held, licence)
    return [(name, fact) for name in names_of(held, licence) for fact in facts]


def gaps_of(held, licence, home):
    """Return the ascending list of the gaps of a home at which a licence allows rows to be put."""
    many = len(held.start().rows(home))
    gaps = {"none": [], "front": [0], "back": [many], "any": list(range(many + 1))}
    return gaps[licence.where(home)]
