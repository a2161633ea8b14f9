"""Whether papers of cores are right."""

from justthese.checks import is_row
from justthese.cores import Core, ask_core_woven, ask_core_world, has_no_less
from justthese.layings import is_laying
from justthese.likeness import part_of
from justthese.maps import is_map


def _rests(paper, many):
    """Whether a paper tells ascending places, and a row that comes to just these and leaves each of them."""
    if not is_row(paper.places, None, many) or not is_row(paper.row, many, many):
        return False
    if list(paper.places) != sorted(set(paper.row)):
        return False
    return all([paper.row[place] == place for place in paper.places])


def shows_core(world, value):
    """Whether any value is a right Core of a world."""
    ask_core_world(world)
    if type(value) != Core or not _rests(value, world.many) or not is_map(world, world, value.row):
        return False
    return has_no_less(part_of(world, value.places))


def shows_web_core(woven, value):
    """Whether any value is a right Core of a woven web."""
    ask_core_woven(woven)
    if type(value) != Core or not _rests(value, woven.web.many) or not is_laying(woven.web, woven.web, value.row):
        return False
    # The layings of what is left of the web are the lifted maps of what is left of the plan.
    return has_no_less(part_of(woven.world, sorted(set(woven.lowered(woven, value.row)))))
