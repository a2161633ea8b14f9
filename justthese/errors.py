"""The errors of the package: each one keeps its fields as they are passed."""


class JustError(ValueError):
    """The base of all errors of the package."""


class BadNumber(JustError):
    """An integer is none, or out of its bounds."""

    def __init__(self, part):
        self.part = part


class BadText(JustError):
    """A text is none, or too long."""

    def __init__(self, part):
        self.part = part


class BadWorld(JustError):
    """A world, or what it is made of, is none."""

    def __init__(self, part):
        self.part = part


class BadMap(JustError):
    """A map, or a row of places, is none."""

    def __init__(self, part):
        self.part = part


class BadWeb(JustError):
    """A web, or what it is made of, is none."""

    def __init__(self, part):
        self.part = part


class BadLaying(JustError):
    """A laying is none."""

    def __init__(self, part):
        self.part = part


class BadCode(JustError):
    """A code is none."""

    def __init__(self, part):
        self.part = part


class BadClasp(JustError):
    """A clasp, or what it is made of, is none."""

    def __init__(self, part):
        self.part = part


class BadBox(JustError):
    """A box, or what it is made of, is none."""

    def __init__(self, part):
        self.part = part


class BadTable(JustError):
    """A table of deeds, or its square, is none."""

    def __init__(self, part):
        self.part = part


class BadMakers(JustError):
    """Makers are none."""

    def __init__(self, part):
        self.part = part


class BadMoves(JustError):
    """A lot of moves is none."""

    def __init__(self, part):
        self.part = part


class BadHouse(JustError):
    """A house, or what it is made of, is none."""

    def __init__(self, part):
        self.part = part


class BadPairs(JustError):
    """Pairs are none."""

    def __init__(self, part):
        self.part = part


class BadGroups(JustError):
    """A grouping is none."""

    def __init__(self, part):
        self.part = part


class BadPuzzle(JustError):
    """A puzzle, or what it is made of, is none."""

    def __init__(self, part):
        self.part = part


class BadPaper(JustError):
    """A paper, or what stands in one, is none."""

    def __init__(self, part):
        self.part = part


class Misfit(JustError):
    """What is told does not fit together."""

    def __init__(self, part):
        self.part = part


class NoClasp(JustError):
    """There is no clasp; a denial tells why."""

    def __init__(self, why):
        self.why = why


class NoBox(JustError):
    """There is no box; a denial tells why."""

    def __init__(self, why):
        self.why = why


class NoPlan(JustError):
    """There is no plan; a denial tells why."""

    def __init__(self, why):
        self.why = why


class NoTable(JustError):
    """There is no table of deeds; a denial tells why."""

    def __init__(self, why):
        self.why = why


class NoHouse(JustError):
    """There is no house; a denial tells why."""

    def __init__(self, why):
        self.why = why


class TooMany(JustError):
    """There are more of something than the most that may be."""

    def __init__(self, what, most):
        self.what = what
        self.most = most


class BadLine(JustError):
    """A line of a text fails at a word, both counted from 0."""

    def __init__(self, line, word):
        self.line = line
        self.word = word
