"""Colourings of woven webs with four colours, and which colourings are right."""

from justthese.asking import ask_number
from justthese.checks import is_row
from justthese.clasps import strip_clasp
from justthese.errors import Misfit
from justthese.strips import colours_of, judged_strip
from justthese.webs import ask_web
from justthese.woven import ask_woven

MOST_COLOURS = 100
END_COLOUR = 3


def _code_of(clasp):
    """The code of which a clasp is the strip clasp, or None."""
    told = judged_strip(clasp.web)
    if not told:
        return None
    for code in (told.code, told.code[::-1]):
        if strip_clasp(code) == clasp:
            return code
    return None


def colouring(woven):
    """The colouring of a woven web with 4 colours: ends have the last one, inner places those of their strips."""
    ask_woven(woven, "woven")
    codes = [_code_of(clasp) for clasp in woven.box.clasps]
    if None in codes:
        raise Misfit("woven")
    colours = [colours_of(code) for code in codes]
    told = [END_COLOUR] * woven.web.many
    for (kind, _, _), copy in zip(woven.arrows, woven.copies):
        for inner in woven.box.clasps[kind].inner:
            told[copy[inner]] = colours[kind][inner]
    return tuple(told)


def is_colouring(web, value, many):
    """Whether any value is a colouring of a web with many colours."""
    ask_web(web, "web")
    ask_number(many, "many", 1, MOST_COLOURS)
    if not is_row(value, web.many, many):
        return False
    return all([value[low] != value[high] for low, high in web.ties])
