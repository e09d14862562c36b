"""Scripts: lists of steps of which only the last one may be a "close"."""

from scriptpicks.errors import BadStep, NoStep, Wrong
from scriptpicks.picks import name_of, pattern_of, place_of
from scriptpicks.steps import is_step, picks_of
from scriptpicks.words import is_index


def check_closes(steps):
    """Raise BadStep for the first "close" that is not the last step."""
    for index, step in enumerate(steps[:-1]):
        if step[0] == "close":
            raise BadStep(index)


class Script:
    """A list of steps; it never changes."""

    def __init__(self, steps):
        if not isinstance(steps, (list, tuple)) or not all([is_step(step) for step in steps]):
            raise Wrong(0)
        check_closes(steps)
        self.all_steps = list(steps)

    def __eq__(self, other):
        return isinstance(other, Script) and self.all_steps == other.all_steps

    def __len__(self):
        return len(self.all_steps)

    def __getitem__(self, at):
        self.check_index(at)
        return self.all_steps[at]

    def __iter__(self):
        raise TypeError("a script is not iterated over: take its steps()")

    def __add__(self, other):
        if not isinstance(other, Script):
            return NotImplemented
        return Script(self.all_steps + other.all_steps)

    def check_index(self, index):
        """Raise NoStep if a value is no index of a step."""
        if not is_index(index, len(self.all_steps)):
            raise NoStep(index)

    def steps(self):
        """Return the list of the steps."""
        return list(self.all_steps)

    def with_step(self, index, step):
        """Return the Script with a step in the place of the one with this index."""
        self.check_index(index)
        if not is_step(step):
            raise Wrong(1)
        return Script(self.all_steps[:index] + [step] + self.all_steps[index + 1:])

    def without(self, index):
        """Return the Script without the step with this index."""
        self.check_index(index)
        return Script(self.all_steps[:index] + self.all_steps[index + 1:])

    def swapped(self, index):
        """Return the Script in which the step with this index and the next one are exchanged."""
        self.check_index(index)
        self.check_index(index + 1)
        ahead, behind = self.all_steps[:index], self.all_steps[index + 2:]
        return Script(ahead + [self.all_steps[index + 1], self.all_steps[index]] + behind)

    def picks_in_order(self):
        """Return the list of the picks of all steps."""
        return [pick for step in self.all_steps for pick in picks_of(step)]

    def names(self):
        """Return the ascending list of the different names in picks by name."""
        found = [name_of(pick) for pick in self.picks_in_order()]
        return sorted(set([name for name in found if name is not None]))

    def patterns(self):
        """Return the ascending list of the different patterns in picks."""
        found = [pattern_of(pick) for pick in self.picks_in_order()]
        return sorted(set([pattern for pattern in found if pattern is not None]))

    def places(self):
        """Return the list of the tuples (step, number) of the picks by "at", in order."""
        return [(index, number) for index, step in enumerate(self.all_steps)
                for number, pick in enumerate(picks_of(step)) if place_of(pick) is not None]
