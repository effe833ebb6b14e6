"""What a caller chooses in a trial (DOC.md, point 35)."""


class Choices:
    """The choices of a trial: those that are laid down, and then the first one each time."""

    def __init__(self, laid_down):
        self.taken = []
        self._laid_down = laid_down
        self._bounds = []

    def pick(self, many):
        """The next choice: a number from 0 to below many."""
        at = len(self.taken)
        chosen = self._laid_down[at] if at < len(self._laid_down) else 0
        self.taken.append(chosen)
        self._bounds.append(many)
        return chosen

    def are_new(self):
        """Whether the choices up to now differ from those that the trial before had begun with."""
        return len(self.taken) >= len(self._laid_down)

    def next_choices(self):
        """The choices to lay down for the next trial, None behind the last one."""
        for at in range(len(self.taken) - 1, -1, -1):
            if self.taken[at] + 1 < self._bounds[at]:
                return self.taken[:at] + [self.taken[at] + 1]
        return None


class Turn:
    """What the caller has chosen at a turn, with the numbers that the trial gives to lists and values.

    given is what it passed or replied; new_lists has the lists that it made; picked has the items that were needed, by
    list and index; unread has the items that a row has set and none needed; grasped has the lists that came to be held
    behind the turn, each with the number of the hands that came before it.
    """

    def __init__(self):
        self.given = []
        self.new_lists = []
        self.picked = {}
        self.unread = []
        self.grasped = []

    def note_unread(self, number, at):
        """Notes that a row has set an item; it is unread unless it was needed."""
        if (number, at) not in self.picked and (number, at) not in self.unread:
            self.unread.append((number, at))
