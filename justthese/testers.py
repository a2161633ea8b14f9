"""Testers: worlds by whose numbers of maps two worlds that are not alike are told apart."""

from justthese.asking import ask_world, ask_worlds, has_each_once
from justthese.checks import is_within
from justthese.errors import BadPaper, BadWorld, Misfit
from justthese.glued import ask_few_places, ask_two_small, glued_by, groupings, is_grouping
from justthese.maps import count_maps, every_map
from justthese.papers import Denial, Paper
from justthese.worlds import World

MOST_COUNTED = 200


class Alike(Paper):
    """Two worlds are alike, by a two-way map."""

    def __init__(self, names):
        Paper.__init__(self, "alike", names)
        self.names = self.parts[0]


class Parted(Denial):
    """One of two worlds, by its side, glued by groups, has these unlike numbers of maps into them."""

    def __init__(self, side, groups, one, other):
        Denial.__init__(self, "parted", side, groups, one, other)
        self.side = self.parts[0]
        self.groups = self.parts[1]
        self.one = self.parts[2]
        self.other = self.parts[3]


def testers(world, other):
    """The world glued by each of its groupings, then the other one by each of its own."""
    ask_two_small(world, other)
    return tuple([glued_by(told, groups) for told in (world, other) for groups in groupings(told.many)])


def counts_into(world, others):
    """For each of some worlds the number of its maps into a world."""
    ask_world(world, "world")
    if not isinstance(others, (list, tuple)) or len(others) > MOST_COUNTED:
        raise BadWorld("others")
    if not all([isinstance(told, World) for told in others]):
        raise BadWorld("others")
    if not all([told.lengths == world.lengths for told in others]):
        raise Misfit("others")
    for told in others:
        ask_few_places(told)
    return tuple([count_maps(told, world) for told in others])


def _has_as_many(world, other):
    """Whether two worlds have as many places, and as many rows in each relation."""
    if world.many != other.many:
        return False
    return [len(rows) for rows in world.rows] == [len(rows) for rows in other.rows]


def _two_way_map(world, other):
    """A two-way map of a world into another one, or None."""
    if _has_as_many(world, other):
        for row in every_map(world, other):
            # As both have as many rows, one to one is two-way.
            if has_each_once(row):
                return row
    return None


def _parted(world, other):
    """The first tester that tells two worlds apart; there is one, if they are not alike."""
    for side, told in enumerate((world, other)):
        for groups in groupings(told.many):
            tester = glued_by(told, groups)
            one, two = count_maps(tester, world), count_maps(tester, other)
            if one != two:
                return Parted(side, groups, one, two)


def judged_alike(world, other):
    """Whether two worlds are alike, or which tester tells them apart."""
    ask_two_small(world, other)
    names = _two_way_map(world, other)
    return _parted(world, other) if names is None else Alike(names)


def parted_world(world, other, paper):
    """The one of two worlds that a Parted glues; None for any value that is no Parted, or glues none of them."""
    if type(paper) != Parted or not is_within(paper.side, 0, 1):
        return None
    told = world if paper.side == 0 else other
    return told if is_grouping(paper.groups, told.many) else None


def tester_of(world, other, paper):
    """The tester that a Parted tells."""
    ask_worlds(world, other)
    told = parted_world(world, other, paper)
    if told is None:
        raise BadPaper("paper")
    ask_two_small(world, other)
    return glued_by(told, paper.groups)
