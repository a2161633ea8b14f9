"""Boxes: rows of clasps of which none has a laying into another one."""

from justthese.asking import ask_number
from justthese.clasps import Clasp, strip_clasp
from justthese.errors import BadBox, NoBox, TooMany
from justthese.layings import some_laying
from justthese.papers import Denial, Paper
from justthese.strips import good_codes

MOST_KINDS = 75
MOST_COMPARED = 12
LEAST_BOX_LETTERS = 4


class Unlike(Paper):
    """Clasps make a box."""

    def __init__(self):
        Paper.__init__(self, "unlike")


class Crossing(Denial):
    """The web of one clasp has a laying into the web of another one: this one."""

    def __init__(self, one, other, laying):
        Denial.__init__(self, "crossing", one, other, laying)
        self.one = self.parts[0]
        self.other = self.parts[1]
        self.laying = self.parts[2]


def _are_clasps(value):
    """Whether any value is a list of as many clasps as a box may have."""
    if not isinstance(value, (list, tuple)) or len(value) < 1 or len(value) > MOST_KINDS:
        return False
    return all([isinstance(clasp, Clasp) for clasp in value])


def _codes_of(clasps):
    """The codes of the closed strips that clasps are, all of one number of letters; None if they are none."""
    codes = [clasp.code for clasp in clasps]
    if None in codes or len({len(code) for code in codes}) > 1:
        return None
    return codes


def judged_box(clasps):
    """Whether clasps make a box."""
    if not _are_clasps(clasps):
        raise BadBox("clasps")
    codes = _codes_of(clasps)
    if codes is None and len(clasps) > MOST_COMPARED:
        raise TooMany("clasps", MOST_COMPARED)
    if codes is not None and len(set(codes)) == len(codes):
        # Of closed strips of as many letters just those of one code, or its reverse, have layings.
        return Unlike()
    for one in range(len(clasps)):
        for other in range(len(clasps)):
            if one != other and (codes is None or codes[one] == codes[other]):
                laying = some_laying(clasps[one].web, clasps[other].web)
                if laying is not None:
                    return Crossing(one, other, laying)
    return Unlike()


class Box:
    """Clasps, its kinds, of which none has a laying into another one."""

    def __init__(self, clasps):
        told = judged_box(clasps)
        if not told:
            raise NoBox(told)
        self.clasps = tuple(clasps)

    def __eq__(self, other):
        return type(self) is type(other) and self.clasps == other.clasps

    def __len__(self):
        return len(self.clasps)


def ask_box(value):
    """Raises unless a value is a box."""
    if not isinstance(value, Box):
        raise BadBox("box")


def strip_box(many):
    """The box of the clasps of so many good codes, of the least number of letters that has so many."""
    ask_number(many, "many", 1, MOST_KINDS)
    letters = LEAST_BOX_LETTERS
    codes = good_codes(letters)
    while len(codes) < many:
        letters += 1
        codes = good_codes(letters)
    return Box([strip_clasp(code) for code in codes[:many]])
