"""Small starts, scripts and licences by chance, and all edits of few rows that a licence allows, to be tried one by one."""

from scriptpicks.edits import Draft
from scriptpicks.errors import NotPicked, Stuck
from scriptpicks.licences import Licence
from scriptpicks.scripts import Script
from scriptpicks.starts import Start
from scriptpicks.steps import done

SORTS = ("call", "more", "out", "part", "turn")
WORDS = ("none", "front", "back", "any")
# More than there are edits behind any list of edits that is tried.
EVERY = 10 ** 6
ALL_ATOMS = [(relation, left, right) for relation in ("eq", "lt", "gt") for left in "abxy" for right in "abxy"]


class Trials:
    """Things by chance; the patterns of one trial are few, as the bounds of the document ask."""

    def __init__(self, chance, with_places=True):
        self.chance, self.with_places = chance, with_places
        self.renew()

    def renew(self):
        self.patterns = [self.pattern(), self.pattern()]

    def atom(self):
        return (self.chance.choice(["eq", "lt", "gt"]), self.chance.choice("abc"), self.chance.choice("abc"))

    def row(self):
        return (self.chance.choice("hkm"), tuple(self.atom() for _ in range(self.chance.choice([1, 1, 2]))))

    def pattern(self):
        return tuple(part if self.chance.random() < 0.45 else "" for part in self.atom())

    def start(self, goal, book):
        rows = [[self.row() for _ in range(self.chance.randrange(most + 1))] for most in (goal, book)]
        return Start(rows[0], rows[1], self.atom())

    def single(self):
        kind = self.chance.choice(["name", "last", "like"] + ["at"] * self.with_places)
        return {"name": ("name", self.chance.choice("hkm")), "last": ("last",), "at": ("at", self.chance.randrange(4)),
                "like": ("like", self.chance.choice(self.patterns))}[kind]

    def pick(self):
        return ("all", self.chance.choice(self.patterns)) if self.chance.random() < 0.35 else self.single()

    def step(self):
        kind = self.chance.choice(["turn", "part", "drop", "call", "copy", "copy", "book", "chain", "chain", "close"])
        name = self.chance.choice("hkmt")
        if kind in ("turn", "part", "drop"):
            return (kind, self.pick())
        if kind == "chain":
            return (kind, self.single(), self.single(), name)
        if kind == "close":
            return (kind, self.single())
        return ("copy", ("book", self.pick()), name) if kind == "book" else (kind, self.pick(), name)

    def script(self, start, most):
        """Return a Script the run of which is done."""
        found, goal = [], start.goal()
        many = self.chance.randrange(1, most + 1)
        for _ in range(40):
            step = self.step()
            try:
                goal = done(goal, start.book(), step, start.aim)[0]
            except (NotPicked, Stuck):
                continue
            found.append(step)
            if step[0] == "close" or len(found) == many:
                break
        return Script(found)

    def licence(self, start, names, many):
        """Return a Licence with many rows and sorts, or few."""
        rows = rows_of(start)
        told = {sort: [row for row in rows if self.chance.random() < many] for sort in SORTS}
        patterns = self.chance.choice([[], self.patterns[:1], self.patterns, [("", "", "")], [self.pattern()]])
        words = WORDS if self.chance.random() < 2 * many else ("none",)
        return Licence(goal=self.chance.choice(words), book=self.chance.choice(words), patterns=patterns,
                       names=self.chance.sample(names, self.chance.randrange(len(names) + 1)), **told)


def rows_of(start):
    """Return the tuples (home, k) of all rows of a start."""
    return [(home, k) for home in ("goal", "book") for k in range(len(start.rows(home)))]


def fitting_atoms(patterns):
    """Return an atom for each pattern, and the turned patterns too, with names that stand nowhere else."""
    turned = {"eq": "eq", "lt": "gt", "gt": "lt", "": "lt"}
    found = [(relation or "eq", left or "x", right or "y") for relation, left, right in patterns]
    return found + [(turned[relation], right or "x", left or "y") for relation, left, right in patterns]


class Universe:
    """The names and atoms that are tried in edits."""

    def __init__(self, chance, scripts, licence, aim, many):
        self.chance = chance
        patterns = [pattern for script in scripts for pattern in script.patterns()] + licence.patterns()
        self.names = sorted({name for script in scripts for name in script.names()} | {"z"})
        self.atoms = sorted(set(fitting_atoms(patterns) + [aim] + chance.sample(ALL_ATOMS, many)))
        pairs = [(one, other) for one in self.atoms for other in self.atoms]
        self.facts = [(atom,) for atom in self.atoms] + chance.sample(pairs, min(len(pairs), 3 * many))

    def edits(self, draft, licence):
        """Return the list of the edits that can be done now and are allowed."""
        found = []
        for home in ("goal", "book"):
            many = len(draft.rows(home))
            if licence.where(home) != "none":
                found += [("put", home, at, (name, fact)) for at in range(many + 1) for name in self.names for fact in self.facts]
            for at in range(many):
                found += [("out", home, at), ("turn", home, at), ("part", home, at)]
                found += [("call", home, at, name) for name in self.names]
                found += [("more", home, at, atom, side) for atom in self.atoms for side in (0, 1)]
        return [edit for edit in found if draft.can(edit) and licence.lets(draft, edit)]

    def lists(self, start, licence, depth, most):
        """Yield the lists of so many edits, and fewer: all of them, or by chance at most so many behind each one."""
        yield from self.lists_behind(Draft(start), licence, depth, most)

    def lists_behind(self, draft, licence, depth, most):
        yield draft.edits()
        if depth == 0:
            return
        edits = self.edits(draft, licence)
        for edit in edits if len(edits) <= most else self.chance.sample(edits, most):
            draft.do(edit)
            yield from self.lists_behind(draft, licence, depth - 1, most)
            draft.back()
