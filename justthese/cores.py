"""Cores: parts of a world, or of a woven web, into which it goes, and which go into no lesser part of them."""

from justthese.asking import ask_world
from justthese.errors import TooMany
from justthese.likeness import part_of
from justthese.maps import some_map, then
from justthese.papers import Paper
from justthese.woven import ask_woven

MOST_CORE_PLACES = 7


class Core(Paper):
    """The places of a core, and a map (or laying) to these that leaves each of them where it is."""

    def __init__(self, places, row):
        Paper.__init__(self, "core", places, row)
        self.places = self.parts[0]
        self.row = self.parts[1]


def _ask_few(world):
    """Raises if a world has too many places."""
    if world.many > MOST_CORE_PLACES:
        raise TooMany("places", MOST_CORE_PLACES)


def ask_core_world(world):
    """Raises unless a value is a world of few places."""
    ask_world(world, "world")
    _ask_few(world)


def ask_core_woven(woven):
    """Raises unless a value is a woven web of a plan of few places."""
    ask_woven(woven, "woven")
    _ask_few(woven.world)


def _missing_map(world):
    """A map of a world into itself that misses a place, or None."""
    for missed in range(world.many):
        kept = [place for place in range(world.many) if place != missed]
        row = some_map(world, part_of(world, kept)) if kept else None
        if row is not None:
            return then(row, kept)
    return None


def has_no_less(world):
    """Whether each map of a world into itself comes to every place; then it is two-way."""
    return _missing_map(world) is None


def _rested(row, places):
    """A map that comes to just these places and moves them about, so often that it leaves them where they are."""
    told = row
    while [told[place] for place in places] != places:
        told = then(told, row)
    return told


def core_of(world):
    """The places of a core of a world, and a map to these that leaves each of them where it is."""
    places = list(range(world.many))
    row = tuple(places)
    shrunk = _missing_map(world)
    while shrunk is not None:
        number = {place: k for k, place in enumerate(places)}
        row = tuple([places[shrunk[number[place]]] for place in row])
        places = sorted(set(row))
        shrunk = _missing_map(part_of(world, places))
    # What comes to a core of it is one to one there.
    return places, _rested(row, places)


def judged_core(world):
    """A core of a world."""
    ask_core_world(world)
    places, row = core_of(world)
    return Core(places, row)


def is_core(world):
    """Whether each map of a world into itself is two-way."""
    ask_core_world(world)
    return has_no_less(world)


def web_core(woven):
    """A core of the web of a plan: the web of a core of the plan."""
    ask_core_woven(woven)
    _, row = core_of(woven.world)
    laying = woven.lifted(woven, row)
    return Core(sorted(set(laying)), laying)
