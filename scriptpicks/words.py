"""Integers, names, relations and homes, and names that are not taken."""

LETTERS = "abcdefghijklmnopqrstuvwxyz"
LONGEST_NAME = 8
RELATIONS = ("eq", "lt", "gt")
HOMES = ("goal", "book")


def is_integer(thing):
    """Return whether a value is an integer; True and False are none."""
    return isinstance(thing, int) and not isinstance(thing, bool)


def is_index(thing, many):
    """Return whether a value is an index of a list of so many."""
    return is_integer(thing) and 0 <= thing < many


def is_name(thing):
    """Return whether a value is a name."""
    if not isinstance(thing, str) or not 1 <= len(thing) <= LONGEST_NAME:
        return False
    return all(["a" <= letter <= "z" for letter in thing])


def is_relation(thing):
    """Return whether a value is a relation."""
    return isinstance(thing, str) and thing in RELATIONS


def is_home(thing):
    """Return whether a value is a home."""
    return isinstance(thing, str) and thing in HOMES


def name_number(number):
    """Return the name with this number, shorter names first, then the lesser ones."""
    name = ""
    rest = number + 1
    while rest > 0:
        # Each letter stands for 1 to 26, not for 0 to 25: no letter is a leading zero.
        rest, letter = divmod(rest - 1, len(LETTERS))
        name = LETTERS[letter] + name
    return name


def fresh(names):
    """Return the shortest name, the least of several, that is not among the strings."""
    taken = {name: True for name in names}
    number = 0
    while name_number(number) in taken:
        number = number + 1
    return name_number(number)
