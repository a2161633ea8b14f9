"""Whether papers of codes, strips, clasps and boxes are right."""

from justthese.boxes import Crossing, judged_box
from justthese.clasps import Moving, judged_clasp
from justthese.layings import is_laying
from justthese.sameness import is_due, is_same
from justthese.strips import judged_code, judged_strip


def shows_code(code, value):
    """Whether any value is the right paper of a code."""
    return is_due(judged_code(code), value)


def shows_strip(web, value):
    """Whether any value is the right paper of a web, as a closed strip."""
    return is_due(judged_strip(web), value)


def shows_clasp(web, first, last, value):
    """Whether any value is a right paper of a web with two ends."""
    due = judged_clasp(web, first, last)
    if type(due) == Moving and type(value) == Moving:
        return is_laying(web, web, value.laying) and list(value.laying) != list(range(web.many))
    return is_due(due, value)


def shows_box(clasps, value):
    """Whether any value is a right paper of clasps, as a box."""
    due = judged_box(clasps)
    if type(due) == Crossing and type(value) == Crossing:
        pair = (due.one, due.other)
        return is_same(pair, (value.one, value.other)) and is_laying(
            clasps[due.one].web, clasps[due.other].web, value.laying
        )
    return is_due(due, value)
