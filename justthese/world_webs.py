"""The webs of worlds, whose layings are the maps of the worlds, and the worlds found again in webs."""

from justthese.asking import ask_lengths, ask_one_signature, ask_world, ask_worlds
from justthese.boxes import MOST_KINDS, strip_box
from justthese.doubled import are_short, judged_doubled
from justthese.errors import BadMap, Misfit, TooMany
from justthese.maps import is_map
from justthese.papers import Paper
from justthese.spread import judged_spread
from justthese.unwoven import judged_woven
from justthese.ways import DOUBLED, SPREAD, ask_way, kinds_by, plan_by, row_by
from justthese.webs import ask_web
from justthese.woven import Woven


class Found(Paper):
    """A web is the web of this world, renamed."""

    def __init__(self, world, names):
        Paper.__init__(self, "found", world, names)
        self.world = self.parts[0]
        self.names = self.parts[1]


def webs_of(worlds, way):
    """The woven webs of worlds of one signature, by a way, of which nothing is asked."""
    told = []
    for world in worlds:
        plan = plan_by(world, way)
        # Plans of one signature have equally many relations, so the box is the same.
        told.append(Woven(plan, told[0].box if told else strip_box(len(plan.lengths))))
    return tuple(told)


def web_of(world, way):
    """The woven web of a world, by a way."""
    ask_world(world, "world")
    ask_way(way)
    return webs_of([world], way)[0]


def _two_webs(world, other, way):
    """The woven webs of two worlds of one signature, by a way."""
    ask_worlds(world, other)
    ask_way(way)
    ask_one_signature(world, other)
    return webs_of([world, other], way)


def laying_of(world, other, row, way):
    """The laying of webs that a map of a world into another one gives."""
    one, two = _two_webs(world, other, way)
    if not is_map(world, other, row):
        raise BadMap("row")
    return one.lifted(two, row_by(world, other, row, way))


def row_of(world, other, laying, way):
    """The map that gives a laying of the web of a world into that of another one."""
    one, two = _two_webs(world, other, way)
    return one.lowered(two, laying)[: world.many]


def world_in(web, lengths, way):
    """Whether a web is the web, renamed, of a world with these lengths, by a way."""
    ask_web(web, "web")
    ask_lengths(lengths)
    ask_way(way)
    if way == DOUBLED and not are_short(lengths):
        raise Misfit("lengths")
    kinds = kinds_by(lengths, way)
    if kinds > MOST_KINDS:
        raise TooMany("kinds", MOST_KINDS)
    box = strip_box(kinds)
    woven = judged_woven(web, box)
    if not woven:
        return woven
    told = judged_spread(woven.world, lengths) if way == SPREAD else judged_doubled(woven.world, lengths)
    if not told:
        return told
    # The names of the plan's places are a map of plans; lifted, it tells the names of all places.
    lifted = Woven(plan_by(told.world, way), box).lifted(Woven(woven.world, box), told.names)
    return Found(told.world, [woven.names[place] for place in lifted])
