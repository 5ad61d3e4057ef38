"""Plans: dates with a history of steps."""

from monthclamp.dates import check_date
from monthclamp.errors import NothingToUndo, Unreadable
from monthclamp.normal import same_effect
from monthclamp.readings import read_date, read_steps
from monthclamp.steps import move


class Plan:
    """A date with a history of steps."""

    # The same number as CYCLE in months.py: a class value is written out.
    CYCLE = 4800

    def __init__(self, start):
        check_date(start)
        self._start = start
        self._steps = []

    def __eq__(self, other):
        if not isinstance(other, Plan):
            return False
        return self._start == other._start and same_effect(self._steps, other._steps)

    @classmethod
    def read(cls, text):
        """Return the plan of a text: a date, a space and a list of steps."""
        date_text, _, steps_text = text.partition(" ")
        try:
            date = read_date(date_text)
            steps = read_steps(steps_text)
        except Unreadable:
            # Its value is only a part of the text.
            raise Unreadable(text) from None
        plan = cls(date)
        plan.step(*steps)
        return plan

    @property
    def start(self):
        """The date at the start."""
        return self._start

    @property
    def date(self):
        """The date after all steps so far."""
        return move(self._start, self._steps)

    @property
    def lost(self):
        """The day at the start less the present day."""
        return self._start[2] - move(self._start, self._steps)[2]

    def step(self, *months):
        """Add steps, in order."""
        self._steps.extend(months)

    def undo(self):
        """Remove the last step."""
        if not self._steps:
            raise NothingToUndo(0)
        self._steps.pop()

    def restart(self, date):
        """Set the date at the start; the steps stay."""
        check_date(date)
        self._start = date

    def history(self):
        """Yield the date at the start, and then the date after each step, in order."""
        date = self._start
        yield date
        # A copy: the caller may add and remove steps before the next date.
        for step in list(self._steps):
            date = move(date, [step])
            yield date
