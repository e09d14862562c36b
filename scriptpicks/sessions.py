"""Sessions: runs that are done step by step, and back and again."""

from scriptpicks.errors import Closed, Nothing, Wrong
from scriptpicks.scripts import Script
from scriptpicks.steps import done, is_step


class Session:
    """A run of a start; its steps are done one by one."""

    def __init__(self, start):
        self.begun = start
        # These lists are replaced, never changed: so a trial only has to keep them.
        self.steps_done = []
        self.steps_undone = []
        self.goal_lists = [start.goal()]

    def __eq__(self, other):
        return isinstance(other, Session) and self.begun == other.begun and self.steps_done == other.steps_done

    def __len__(self):
        return len(self.steps_done)

    def __iadd__(self, other):
        self.do(other)
        return self

    @property
    def closed(self):
        """Whether the last step that stands is a "close"."""
        return len(self.steps_done) > 0 and self.steps_done[-1][0] == "close"

    def after(self, step):
        """Return what `done` returns for a step, or raise what `do` raises."""
        if self.closed:
            raise Closed()
        if not is_step(step):
            raise Wrong(0)
        return done(self.goal_lists[-1], self.begun.book(), step, self.begun.aim)

    def stand(self, step, goal):
        """Let a step stand, with the goal behind it."""
        self.steps_done = self.steps_done + [step]
        self.goal_lists = self.goal_lists + [goal]

    def do(self, step):
        """Do a step, and return the list of the indexes that each of its picks picked."""
        goal, chosen = self.after(step)
        self.stand(step, goal)
        self.steps_undone = []
        return chosen

    def would(self, step):
        """Return what `do` would return, or raise what it would raise."""
        return self.after(step)[1]

    def goal(self):
        """Return the list of the rows of the goal."""
        return list(self.goal_lists[-1])

    def start(self):
        """Return the Start that the Session was made of."""
        return self.begun

    def script(self):
        """Return the Script of the steps that stand."""
        return Script(self.steps_done)

    def back(self):
        """Undo the last step that stands, and return it."""
        if len(self.steps_done) == 0:
            raise Nothing()
        step = self.steps_done[-1]
        self.steps_done = self.steps_done[:-1]
        self.goal_lists = self.goal_lists[:-1]
        self.steps_undone = self.steps_undone + [step]
        return step

    def again(self):
        """Do the step again that was undone last, and return it."""
        if len(self.steps_undone) == 0:
            raise Nothing()
        step = self.steps_undone[-1]
        self.stand(step, self.after(step)[0])
        self.steps_undone = self.steps_undone[:-1]
        return step

    def trial(self, act):
        """Call act with the Session and return its result; then the Session stands as ahead."""
        steps_done, steps_undone, goal_lists = self.steps_done, self.steps_undone, self.goal_lists
        try:
            return act(self)
        finally:
            self.steps_done, self.steps_undone, self.goal_lists = steps_done, steps_undone, goal_lists

    def copied(self):
        """Return a Session that stands there, too, and goes on by itself."""
        other = Session(self.begun)
        other.steps_done, other.steps_undone, other.goal_lists = self.steps_done, self.steps_undone, self.goal_lists
        return other
