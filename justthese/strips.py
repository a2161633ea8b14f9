"""Strips of triangles, told by codes, and closed strips."""

from justthese.asking import ask_code, ask_number, has_each_once
from justthese.errors import Misfit
from justthese.papers import Denial, Paper
from justthese.sheets import triangles
from justthese.triangle_rows import code_along, places_along, row_of_triangles
from justthese.webs import Web, ask_web

MOST_GOOD_LETTERS = 10
# The least and the greatest number of triangles of a closed strip: three letters at least, and 16 at most.
LEAST_CLOSED = 6
MOST_CLOSED = 19
# Triangle 0 has place 0 as its hub and place 1 as its young place; the next two follow as by these letters.
LEAD = "11"


class Stiff(Paper):
    """The closed strip of a code is stiff: the colours of the places of its strip."""

    def __init__(self, colours):
        Paper.__init__(self, "stiff", colours)
        self.colours = self.parts[0]


class Strip(Paper):
    """A web is the closed strip of a code, renamed."""

    def __init__(self, code, names):
        Paper.__init__(self, "strip", code, names)
        self.code = self.parts[0]
        self.names = self.parts[1]


class Touching(Denial):
    """A code touches: one of places 1 and 2 is, or is tied to, the other."""

    def __init__(self, one, other):
        Denial.__init__(self, "touching", one, other)
        self.one = self.parts[0]
        self.other = self.parts[1]


class SameTips(Denial):
    """The tips of a code have one colour: the colours of the places of its closed strip."""

    def __init__(self, colours):
        Denial.__init__(self, "sametips", colours)
        self.colours = self.parts[0]


class Reversed(Denial):
    """A code is its own reverse: the laying of its closed strip into itself that is not still."""

    def __init__(self, names):
        Denial.__init__(self, "reversed", names)
        self.names = self.parts[0]


class NoStrip(Denial):
    """A web is no closed strip of a code, renamed."""

    def __init__(self):
        Denial.__init__(self, "nostrip")


def triangles_of(code):
    """The triangles of a strip in their row, each told as its hub, its young place and its new place."""
    ask_code(code)
    hub, young = 0, 1
    told = [(0, 1, 2)]
    for k, letter in enumerate(LEAD + code):
        if letter == "1":
            hub = young
        young = k + 2
        told.append((hub, young, k + 3))
    return tuple(told)


def hubs(code):
    """The places that triangles k, k + 1 and k + 2 of a strip have in common, for k from 0."""
    ask_code(code)
    return tuple([hub for hub, _, _ in triangles_of(code)[2:]])


def colours_of(code):
    """The colours of the places of a strip."""
    ask_code(code)
    colours = [0, 1]
    for hub, young, _ in triangles_of(code):
        colours.append(3 - colours[hub] - colours[young])
    return tuple(colours)


def _ties_of(row):
    """The ties of triangles."""
    return [pair for one, other, third in row for pair in ((one, other), (one, third), (other, third))]


def strip(code):
    """The strip of a code."""
    ask_code(code)
    return Web(len(code) + 5, _ties_of(triangles_of(code)))


def _touches(code):
    """Whether a code touches: no two of its letters 1 are two or more letters apart."""
    return code.rfind("1") - code.find("1") < 2


def touching(code):
    """None if a code does not touch; otherwise the least two places because of which it does."""
    ask_code(code)
    if not _touches(code):
        return None
    web = strip(code)
    last = triangles_of(code)[-1]
    return min([(one, other) for one in (1, 2) for other in last[:2] if one == other or web.is_tied(one, other)])


def _closed_triangles(code):
    """The triangles of the closed strip of a code, in their row."""
    row = triangles_of(code)
    hub, young, _ = row[-1]
    return row[:-1] + ((0, hub, young),)


def closed_strip(code):
    """The closed strip of a code."""
    ask_code(code)
    if _touches(code):
        raise Misfit("code")
    return Web(len(code) + 4, _ties_of(_closed_triangles(code)))


def _last_colour(code):
    """The colour of the last place of a strip, by those of hub and young place alone."""
    hub, young = 0, 1
    for letter in LEAD + code:
        if letter == "1":
            hub, young = young, 3 - hub - young
        else:
            young = 3 - hub - young
    return 3 - hub - young


def _is_good(code):
    """Whether a code is good."""
    return code < code[::-1] and not _touches(code) and _last_colour(code) != 0


def good_codes(letters):
    """All good codes of so many letters."""
    ask_number(letters, "letters", 0, MOST_GOOD_LETTERS)
    codes = [""]
    for _ in range(letters):
        codes = [code + letter for code in codes for letter in "01"]
    return tuple([code for code in codes if _is_good(code)])


def judged_code(code):
    """Whether the closed strip of a code is stiff, and if not, why."""
    ask_code(code)
    pair = touching(code)
    if pair is not None:
        return Touching(pair[0], pair[1])
    colours = colours_of(code)
    if colours[-1] == 0:
        return SameTips(colours[:-1])
    if code == code[::-1]:
        return Reversed(places_along(_closed_triangles(code)[::-1])[:-1])
    return Stiff(colours)


def _told_strip(row):
    """The code of a row of triangles and the names of its places, of both ways about the lesser ones."""
    code = code_along(row)
    back = code[::-1]
    if code == back:
        return code, min(places_along(row), places_along(row[::-1]))
    return (code, places_along(row)) if code < back else (back, places_along(row[::-1]))


def _is_closed(code, names, told):
    """Whether triangles are those of the closed strip of a code, its places being named as a strip's are."""
    if names[0] != names[-1] or not has_each_once(names[1:]) or _touches(code):
        return False
    due = [tuple(sorted([names[place] for place in triangle])) for triangle in _closed_triangles(code)]
    return sorted(due) == list(told)


def judged_strip(web):
    """Whether a web is the closed strip of a code, renamed."""
    ask_web(web, "web")
    # The closed strip of m triangles has m + 1 places and 2m + 1 ties.
    due = web.many - 1
    if due < LEAST_CLOSED or due > MOST_CLOSED or len(web.ties) != 2 * due + 1:
        return NoStrip()
    told = triangles(web)
    row = row_of_triangles(told) if len(told) == due else None
    if row is None:
        return NoStrip()
    code, names = _told_strip(row)
    return Strip(code, names[:-1]) if _is_closed(code, names, told) else NoStrip()
