"""Layings of closed strips into webs, counted from letter to letter."""

from justthese.asking import ask_code, ask_number
from justthese.errors import Misfit, TooMany
from justthese.layings import MOST_LAYINGS
from justthese.sheets import triangles
from justthese.strips import LEAD, touching
from justthese.webs import ask_web

MOST_WALKED_PLACES = 60
MOST_WALKED_TRIANGLES = 200


def _beside_two(told):
    """For each two places of a triangle, either way about, the ascending list of the places tied to both."""
    both = {}
    for one, other, third in told:
        for low, high, beyond in ((one, other, third), (one, third, other), (other, third, one)):
            both.setdefault((low, high), []).append(beyond)
            both.setdefault((high, low), []).append(beyond)
    return {pair: sorted(places) for pair, places in both.items()}


def _ask_walk(code, web):
    """What `_beside_two` tells of a web; raises if the code touches, or the web is too great."""
    if touching(code) is not None:
        raise Misfit("code")
    if web.many > MOST_WALKED_PLACES:
        raise TooMany("places", MOST_WALKED_PLACES)
    told = triangles(web)
    if len(told) > MOST_WALKED_TRIANGLES:
        raise TooMany("triangles", MOST_WALKED_TRIANGLES)
    return _beside_two(told)


def _ways(code, both):
    """For each triangle of a strip, and each (hub, young, start) for which there are any, the number of ways on.

    The three are where hub, young place and place 0 are laid. A way lays all further places,
    and the last one of them where place 0 is.
    """
    table = {(hub, young, start): 1 for hub, young in both for start in both[(hub, young)]}
    tables = [table]
    for letter in reversed(LEAD + code):
        ahead = {}
        for (hub, young, start), many in table.items():
            for other in both[(hub, young)]:
                # The triangle ahead has these as its hub and its young place; its new place is the young one here.
                key = (other, hub, start) if letter == "1" else (hub, other, start)
                ahead[key] = ahead.get(key, 0) + many
        table = ahead
        tables.append(table)
    return tables[::-1]


def _rows(code, both, tables):
    """The layings, as the tables of ways tell: each row goes on only where there is a way to its end."""
    begun = [((start, young), hub, young) for hub, young, start in tables[0] if hub == start]
    for letter, table in zip(LEAD + code, tables[1:]):
        ahead = []
        for row, hub, young in begun:
            stays = young if letter == "1" else hub
            ahead.extend([(row + (new,), stays, new) for new in both[(hub, young)] if (stays, new, row[0]) in table])
        begun = ahead
    return sorted([row for row, _, _ in begun])


def _how_many(tables):
    """The number of layings: place 0 is the hub of triangle 0."""
    return sum([many for (hub, _, start), many in tables[0].items() if hub == start])


def count_layings(code, web):
    """How many layings of the closed strip of a code into a web there are."""
    ask_code(code)
    ask_web(web, "web")
    return _how_many(_ways(code, _ask_walk(code, web)))


def strip_layings(code, web, most=200):
    """All layings of the closed strip of a code into a web, at most so many."""
    ask_code(code)
    ask_web(web, "web")
    ask_number(most, "most", 1, MOST_LAYINGS)
    both = _ask_walk(code, web)
    tables = _ways(code, both)
    if _how_many(tables) > most:
        raise TooMany("layings", most)
    return tuple(_rows(code, both, tables))
