"""Squares, and tables of deeds: squares with a still deed in which brackets do not matter."""

from justthese.asking import ask_number
from justthese.checks import is_row
from justthese.errors import BadTable, NoTable
from justthese.papers import Denial, Paper

MOST_MEMBERS = 40


class Deeds(Paper):
    """A square is a table of deeds: its still deed."""

    def __init__(self, still):
        Paper.__init__(self, "deeds", still)
        self.still = self.parts[0]


class Unstill(Denial):
    """No member of a square is still: for each one a member that it moves."""

    def __init__(self, moved):
        Denial.__init__(self, "unstill", moved)
        self.moved = self.parts[0]


class Triple(Denial):
    """Three members for which brackets matter."""

    def __init__(self, one, other, third):
        Denial.__init__(self, "triple", one, other, third)
        self.one = self.parts[0]
        self.other = self.parts[1]
        self.third = self.parts[2]


def ask_square(rows):
    """Raises unless a value is a square."""
    if not isinstance(rows, (list, tuple)) or len(rows) < 1 or len(rows) > MOST_MEMBERS:
        raise BadTable("rows")
    if not all([is_row(row, len(rows), len(rows)) for row in rows]):
        raise BadTable("rows")


def is_moved(rows, member, other):
    """Whether a member then another one, or the other one then the member, is not that other one."""
    return rows[member][other] != other or rows[other][member] != other


def is_triple(rows, one, other, third):
    """Whether it matters for three members, one behind another, which two are taken first."""
    return rows[rows[one][other]][third] != rows[one][rows[other][third]]


def _first_moved(rows, member):
    """The least member that a member moves, or None if it is still."""
    for other in range(len(rows)):
        if is_moved(rows, member, other):
            return other
    return None


def still_of(rows):
    """The still member of a square, or None."""
    ask_square(rows)
    for member in range(len(rows)):
        if _first_moved(rows, member) is None:
            return member
    return None


def least_triple(rows):
    """The least three members of a square for which brackets matter, or None."""
    members = range(len(rows))
    for one in members:
        for other in members:
            for third in members:
                if is_triple(rows, one, other, third):
                    return one, other, third
    return None


def judged_table(rows):
    """Whether a square is a table of deeds."""
    still = still_of(rows)
    if still is None:
        return Unstill([_first_moved(rows, member) for member in range(len(rows))])
    triple = least_triple(rows)
    if triple is not None:
        return Triple(triple[0], triple[1], triple[2])
    return Deeds(still)


class Table:
    """A table of deeds: for each two deeds the one then the other, and its still deed."""

    def __init__(self, rows):
        told = judged_table(rows)
        if not told:
            raise NoTable(told)
        self.rows = tuple([tuple(row) for row in rows])
        self.still = told.still

    def __eq__(self, other):
        return type(self) is type(other) and self.rows == other.rows

    def __len__(self):
        return len(self.rows)

    def then(self, one, other):
        """One deed, then another one."""
        ask_number(one, "one", 0, len(self.rows) - 1)
        ask_number(other, "other", 0, len(self.rows) - 1)
        return self.rows[one][other]


def ask_table(value, part):
    """Raises unless a value is a table of deeds."""
    if not isinstance(value, Table):
        raise BadTable(part)
