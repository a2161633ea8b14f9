"""Clasps: stiff webs with two ends, whose ties all hang together by triangles."""

from justthese.asking import ask_code, ask_number
from justthese.errors import BadClasp, Misfit, NoClasp, TooMany
from justthese.layings import moving_laying
from justthese.papers import Denial, Paper
from justthese.sheets import sheets, triangles
from justthese.strips import Stiff, closed_strip, judged_code, judged_strip
from justthese.webs import ask_web

MOST_JUDGED = 12
LAST_END = 3


class Held(Paper):
    """A web with two ends is a clasp."""

    def __init__(self):
        Paper.__init__(self, "held")


class Tied(Denial):
    """The ends are equal or tied."""

    def __init__(self, first, last):
        Denial.__init__(self, "tied", first, last)
        self.first = self.parts[0]
        self.last = self.parts[1]


class Bare(Denial):
    """A place has no tie, or is in no row."""

    def __init__(self, place):
        Denial.__init__(self, "bare", place)
        self.place = self.parts[0]


class Flat(Denial):
    """A tie is in no triangle."""

    def __init__(self, tie):
        Denial.__init__(self, "flat", tie)
        self.tie = self.parts[0]


class Apart(Denial):
    """Two ties do not hang together."""

    def __init__(self, one, other):
        Denial.__init__(self, "apart", one, other)
        self.one = self.parts[0]
        self.other = self.parts[1]


class Moving(Denial):
    """A web has a laying into itself that is not still."""

    def __init__(self, laying):
        Denial.__init__(self, "moving", laying)
        self.laying = self.parts[0]


def _flat_ties(web):
    """The ties of a web that are in no triangle."""
    held = {}
    for one, other, third in triangles(web):
        for tie in ((one, other), (one, third), (other, third)):
            held[tie] = True
    return [tie for tie in web.ties if tie not in held]


def _judged(web, first, last, code):
    """What is due for a web with two ends, the closed strip of a code, renamed; None for the code if it is none."""
    if first == last or web.is_tied(first, last):
        return Tied(first, last)
    if code is not None and judged_code(code):
        # A closed strip with unlike tips that is not its own reverse has all that is asked further.
        return Held()
    bare = [place for place in range(web.many) if len(web.beside(place)) == 0]
    if len(bare) > 0:
        return Bare(bare[0])
    flat = _flat_ties(web)
    if len(flat) > 0:
        return Flat(flat[0])
    told = sheets(web)
    if len(told) > 1:
        return Apart(told[0][0], told[1][0])
    laying = moving_laying(web)
    return Held() if laying is None else Moving(laying)


def _judged_with_code(web, first, last):
    """Whether a web with two ends is a clasp, and the code if it is a closed strip, renamed, or None."""
    ask_web(web, "web")
    ask_number(first, "first", 0, web.many - 1)
    ask_number(last, "last", 0, web.many - 1)
    told = judged_strip(web)
    if web.many > MOST_JUDGED and not told:
        raise TooMany("places", MOST_JUDGED)
    code = told.code if told else None
    return _judged(web, first, last, code), code


def judged_clasp(web, first, last):
    """Whether a web with two ends is a clasp."""
    return _judged_with_code(web, first, last)[0]


class Clasp:
    """A web with two ends that is a clasp; the places other than the ends are its inner ones.

    If the web is a closed strip, renamed, its code is kept, too; otherwise this is None.
    """

    def __init__(self, web, first, last):
        told, code = _judged_with_code(web, first, last)
        if not told:
            raise NoClasp(told)
        self.web = web
        self.first = first
        self.last = last
        self.inner = tuple([place for place in range(web.many) if place not in (first, last)])
        self.code = code

    def __eq__(self, other):
        return type(self) is type(other) and (
            (self.web, self.first, self.last) == (other.web, other.first, other.last)
        )


def turned_about(clasp):
    """A clasp with its ends exchanged."""
    if not isinstance(clasp, Clasp):
        raise BadClasp("clasp")
    return Clasp(clasp.web, clasp.last, clasp.first)


def strip_clasp(code):
    """The clasp of the closed strip of a code, with the ends 0 and 3."""
    ask_code(code)
    if not isinstance(judged_code(code), Stiff):
        raise Misfit("code")
    return Clasp(closed_strip(code), 0, LAST_END)
