"""Which atoms hold for which integers, which follow from rows, and scripts that close."""

from scriptpicks.atoms import turned
from scriptpicks.picks import ANYTHING
from scriptpicks.scripts import Script
from scriptpicks.words import RELATIONS

# Any name will do for the rows that are made on the way.
MADE = "a"


def holds(atom, values):
    """Return whether an atom holds for the integers of its names."""
    relation, left, right = atom
    if relation == "eq":
        return values[left] == values[right]
    if relation == "lt":
        return values[left] < values[right]
    return values[left] > values[right]


def all_hold(rows, values):
    """Return whether all atoms of all rows hold."""
    return all([holds(atom, values) for name, fact in rows for atom in fact])


def links_of(rows):
    """Return the dict from the tuples (from, to, is_less) to an atom that says so, as in a ring."""
    links = {}
    for row, (name, fact) in enumerate(rows):
        for number, atom in enumerate(fact):
            for is_turned in (False, True):
                relation, left, right = turned(atom) if is_turned else atom
                if relation != "gt":
                    links.setdefault((left, right, relation == "lt"), (row, number, is_turned))
    return links


def names_of_links(links):
    """Return the ascending list of the different names between which links lead."""
    return sorted(set([name for link in links for name in link[:2]]))


def possible(rows):
    """Return values with which all rows hold, or None."""
    links = links_of(rows)
    values = {name: 0 for name in names_of_links(links)}
    # The values are raised along the links; without a ring they are raised in fewer rounds than there are names.
    for count in range(len(values) + 1):
        is_steady = True
        for one, other, is_less in links:
            least = values[one] + 1 if is_less else values[one]
            if values[other] < least:
                values[other] = least
                is_steady = False
        if is_steady:
            return values
    return None


def reached_from(links, one):
    """Return the dict from what is reached over links from a name to how one comes there.

    What is reached is told as tuples (name, whether a less has been passed); one
    comes there from another such tuple, by an atom.
    """
    came = {}
    left = [(one, False)]
    while left != []:
        ahead, left = left, []
        for state in ahead:
            for first, second, less in links:
                reached = (second, state[1] or less)
                if first == state[0] and reached not in came:
                    came[reached] = (state, links[(first, second, less)])
                    left.append(reached)
    return came


def way(links, one, other, is_less):
    """Return a list of atoms, not empty, that leads from one name to the other, or None.

    It has a less exactly if is_less is true.
    """
    came = reached_from(links, one)
    if (other, is_less) not in came:
        return None
    state, atom = came[(other, is_less)]
    found = [atom]
    while state != (one, False):
        state, atom = came[state]
        found.append(atom)
    return found[::-1]


def ring(rows):
    """Return a ring of the rows, or None if they can hold."""
    links = links_of(rows)
    for name in names_of_links(links):
        found = way(links, name, name, True)
        if found is not None:
            return found
    return None


def way_of(rows, atom):
    """Return a list of atoms of rows, not empty, along which an atom follows, or None."""
    relation, left, right = turned(atom) if atom[0] == "gt" else atom
    return way(links_of(rows), left, right, relation == "lt")


def trail(rows, atom):
    """Return a list of atoms, perhaps empty, along which an atom follows, or None."""
    if atom[0] == "eq" and atom[1] == atom[2]:
        return []
    return way_of(rows, atom)


def apart(rows, atom):
    """Return values with which all rows hold and the atom does not, or None."""
    for relation in RELATIONS:
        if relation != atom[0]:
            # Between two integers just one of the three relations holds.
            values = possible(list(rows) + [(MADE, ((relation,) + atom[1:],))])
            if values is not None:
                return values
    return None


def follows(rows, atom):
    """Return whether an atom holds with all values with which all rows hold."""
    return apart(rows, atom) is None


def chaining(found, places):
    """Return the steps that make the last row say where a way leads.

    places has the index of the row of each atom, and each row has one atom.
    """
    first = found[0]
    steps = [("copy", ("at", places[first[:2]]), MADE)]
    if first[2]:
        steps.append(("turn", ("last",)))
    were_turned = {}
    for row, number, is_turned in found[1:]:
        at = places[(row, number)]
        # A way may lead along an atom in both directions.
        if is_turned != were_turned.get(at, False):
            steps.append(("turn", ("at", at)))
        were_turned[at] = is_turned
        steps.append(("chain", ("last",), ("at", at), MADE))
    return steps


def closing(start):
    """Return a Script that closes for a start, or None if there is none."""
    rows = start.goal() + start.book()
    found = way_of(rows, start.aim)
    if found is None:
        return None
    atoms = [(row, number) for row, (name, fact) in enumerate(rows) for number in range(len(fact))]
    places = {atom: at for at, atom in enumerate(atoms)}
    steps = [("copy", ("book", ("all", ANYTHING)), MADE), ("part", ("all", ANYTHING))] + chaining(found, places)
    if start.aim[0] == "gt":
        steps.append(("turn", ("last",)))
    return Script(steps + [("close", ("last",))])
