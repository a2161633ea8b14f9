"""What a desk answers to lines that change nothing."""

from justthese.cores import judged_core
from justthese.maps import maps
from justthese.pictures import strip_picture, web_picture
from justthese.refutations import judged_map
from justthese.strips import closed_strip, judged_code
from justthese.testers import judged_alike
from justthese.walks import count_layings
from justthese.world_texts import world_text
from justthese.world_webs import web_of
from justthese.woven import all_layings

MOST_MAPS_TOLD = 300
MOST_LAYINGS_TOLD = 1000


def _spaced(numbers):
    """Numbers with single blanks between."""
    return " ".join([str(number) for number in numbers])


def _strikes_of(paper):
    """How many strikes a NoMap has, those in its cases counted."""
    count = len(paper.strikes)
    # No function calls itself here: refutations may be nested deeper than calls should be.
    waiting = [refutation for _, refutation in paper.cases]
    while waiting:
        strikes, _, cases = waiting.pop()
        count += len(strikes)
        waiting.extend([refutation for _, refutation in cases])
    return count


def _show(world):
    """The lines of the text of a world."""
    return tuple(world_text(world).split("\n"))


def _maps(world, other):
    """How many maps of a world into another one there are, and each of them."""
    rows = maps(world, other, MOST_MAPS_TOLD)
    return (f"maps {len(rows)}",) + tuple([_spaced(row) for row in rows])


def _why(world, other):
    """A map of a world into another one, or how many strikes show that there is none."""
    paper = judged_map(world, other)
    return (f"map {_spaced(paper.row)}",) if paper else (f"none {_strikes_of(paper)}",)


def _web(world, way):
    """How great the web of a world is, by a way."""
    woven = web_of(world, way)
    return (f"places {len(woven.web)} ties {len(woven.web.ties)} kinds {len(woven.box)}",)


def _layings(world, other, way):
    """How many layings of the web of a world into that of another one there are, by a way."""
    rows = all_layings(web_of(world, way), web_of(other, way), MOST_LAYINGS_TOLD)
    return (f"layings {len(rows)}",)


def _same(world, other):
    """Whether two worlds are alike, by which names, or by which numbers they are told apart."""
    paper = judged_alike(world, other)
    if paper:
        return (f"alike {_spaced(paper.names)}",)
    return (f"parted {paper.side} {paper.one} {paper.other}",)


def _core(world):
    """The places of a core of a world."""
    return (f"core {_spaced(judged_core(world).places)}",)


def _picture(world, way):
    """The picture of the web of a world, by a way."""
    return web_picture(web_of(world, way).web)


def _code(code):
    """Whether the closed strip of a code is stiff, and if not, why."""
    paper = judged_code(code)
    if paper.word == "touching":
        return (f"touching {paper.one} {paper.other}",)
    return (paper.word,)


def _into(code, other):
    """How many layings of the closed strip of a code into that of another one there are."""
    return (f"layings {count_layings(code, closed_strip(other))}",)


def _strip(code):
    """The picture of the strip of a code."""
    return strip_picture(code)


ANSWERS = {
    "show": _show,
    "maps": _maps,
    "why": _why,
    "web": _web,
    "layings": _layings,
    "same": _same,
    "core": _core,
    "picture": _picture,
    "code": _code,
    "into": _into,
    "strip": _strip,
}


def answered(word, told):
    """The answer to a line by its first word, and what is told behind it: worlds, codes and ways."""
    answer = ANSWERS[word]
    return answer(*told)
