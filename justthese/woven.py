"""Woven webs: plans whose arrows are clasps laid in; their layings are the maps of the plans."""

from justthese.asking import ask_number, ask_world
from justthese.boxes import ask_box
from justthese.errors import BadLaying, BadMap, BadWeb, Misfit, TooMany
from justthese.layings import MOST_LAYINGS, is_laying
from justthese.maps import is_map, maps
from justthese.plans import arrows
from justthese.webs import MOST_TIES, MOST_WEB_PLACES, Web


def _copies_of(world, clasps, told):
    """For each arrow the places on which the places of its clasp lie."""
    copies = []
    places = world.many
    for (_, one, other), clasp in zip(told, clasps):
        copy = [0] * clasp.web.many
        copy[clasp.first] = one
        copy[clasp.last] = other
        for inner in clasp.inner:
            copy[inner] = places
            places += 1
        copies.append(tuple(copy))
    return tuple(copies)


def _woven_web(world, box, told):
    """The web of a plan and a box, and its copies."""
    clasps = [box.clasps[kind] for kind, _, _ in told]
    many = world.many + sum([len(clasp.inner) for clasp in clasps])
    if many > MOST_WEB_PLACES:
        raise TooMany("places", MOST_WEB_PLACES)
    # The ends of a clasp are not tied, so no tie lies in two copies.
    if sum([len(clasp.web.ties) for clasp in clasps]) > MOST_TIES:
        raise TooMany("ties", MOST_TIES)
    copies = _copies_of(world, clasps, told)
    ties = [(copy[low], copy[high]) for copy, clasp in zip(copies, clasps) for low, high in clasp.web.ties]
    return Web(many, ties), copies


class Woven:
    """The web woven of a plan and a box, with its arrows and their copies."""

    def __init__(self, world, box):
        ask_world(world, "world")
        ask_box(box)
        told = arrows(world)
        if len(box) < len(world.lengths):
            raise Misfit("box")
        web, copies = _woven_web(world, box, told)
        self.world = world
        self.box = box
        self.web = web
        self.arrows = told
        self.copies = copies

    def __eq__(self, other):
        return type(self) is type(other) and (self.world, self.box) == (other.world, other.box)

    def lifted(self, other, row):
        """The laying into another woven web to which a map of the plans is lifted."""
        _ask_fitting(self, other)
        if not is_map(self.world, other.world, row):
            raise BadMap("row")
        return _lifted(self, _by_arrow(other), row)

    def lowered(self, other, laying):
        """The map of the plans to which a laying into another woven web is lowered."""
        _ask_fitting(self, other)
        if not is_laying(self.web, other.web, laying):
            raise BadLaying("laying")
        return tuple(laying[: self.world.many])


def ask_woven(value, part):
    """Raises unless a value is a woven web with its plan."""
    if not isinstance(value, Woven):
        raise BadWeb(part)


def _ask_fit(woven, other):
    """Raises unless two woven webs are of one box and of plans with equally many relations."""
    if woven.box != other.box or woven.world.lengths != other.world.lengths:
        raise Misfit("other")


def _ask_fitting(woven, other):
    """Raises unless any other value is a woven web that fits."""
    ask_woven(other, "other")
    _ask_fit(woven, other)


def _by_arrow(woven):
    """The copy of each arrow."""
    return {arrow: copy for arrow, copy in zip(woven.arrows, woven.copies)}


def _lifted(woven, copies, row):
    """A map of plans, lifted, by the copies of the other plan's arrows."""
    laying = [0] * woven.web.many
    for (kind, one, other), copy in zip(woven.arrows, woven.copies):
        for place, image in zip(copy, copies[(kind, row[one], row[other])]):
            laying[place] = image
    return tuple(laying)


def all_layings(woven, other, most=200):
    """All layings of one woven web into another one, as the lifted maps of their plans, at most so many."""
    ask_woven(woven, "woven")
    ask_woven(other, "other")
    ask_number(most, "most", 1, MOST_LAYINGS)
    _ask_fit(woven, other)
    try:
        rows = maps(woven.world, other.world, most)
    except TooMany:
        raise TooMany("layings", most)
    copies = _by_arrow(other)
    # The places of the plan come first, so the layings ascend as the maps do.
    return tuple([_lifted(woven, copies, row) for row in rows])
