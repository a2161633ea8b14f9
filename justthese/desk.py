"""The desk, which keeps worlds by names, and is told lines."""

from justthese.answers import answered
from justthese.changes import changed, is_deed
from justthese.errors import BadText, Misfit, TooMany
from justthese.reader import NAME, NEW, read_line, words_by

MOST_NAMES = 12
MOST_LINES = 200
UNDO = "undo"


def _ask_names(told, kept):
    """Raises unless each name of a line has a world, but a new one, and unless a new one can be kept."""
    for name in words_by(told, NAME):
        if name not in kept:
            raise Misfit("name")
    for name in words_by(told, NEW):
        if name in kept:
            raise Misfit("name")


class Desk:
    """Worlds by names, and how many deeds can be undone."""

    def __init__(self):
        self.worlds = ()
        self.deeds = 0
        # What was kept ahead of each deed that can be undone.
        self._past = []

    def do(self, line):
        """Does what a line says, and tells the answer."""
        told = read_line(line)
        kept = {name: world for name, world in self.worlds}
        _ask_names(told, kept)
        if told[0] == UNDO:
            return self._undone()
        if not is_deed(told[0]):
            names = words_by(told, NAME)
            return answered(told[0], [kept[name] for name in names] + list(told[1 + len(names) :]))
        if len(kept) == MOST_NAMES and len(words_by(told, NEW)) > 0:
            raise TooMany("names", MOST_NAMES)
        name, world, answer = changed(kept, told)
        kept[name] = world
        self._past.append(self.worlds)
        self.worlds = tuple([(there, kept[there]) for there in sorted(kept) if kept[there] is not None])
        self.deeds = len(self._past)
        return (answer,)

    def _undone(self):
        """Undoes the last deed that was not undone."""
        if len(self._past) == 0:
            raise Misfit(UNDO)
        self.worlds = self._past.pop()
        self.deeds = len(self._past)
        return ("undone",)

    def do_all(self, lines):
        """Does what some lines say, one behind another; if one raises an error, none of them is done."""
        if not isinstance(lines, (list, tuple)) or len(lines) > MOST_LINES:
            raise BadText("lines")
        trial = Desk()
        trial.worlds = self.worlds
        trial._past = list(self._past)
        answers = tuple([trial.do(line) for line in lines])
        self.worlds = trial.worlds
        self.deeds = len(trial._past)
        self._past = trial._past
        return answers
