"""Triangles, sheets and clusters of webs."""

from justthese.checks import is_row
from justthese.errors import BadPairs
from justthese.masks import bits_of, web_masks
from justthese.reaching import clusters_by
from justthese.webs import Web, ask_web


def triangles(web):
    """The triangles of a web."""
    ask_web(web, "web")
    masks = web_masks(web)
    found = []
    for low, high in web.ties:
        for beyond in bits_of((masks[low] & masks[high]) >> (high + 1)):
            found.append((low, high, high + 1 + beyond))
    return tuple(found)


def _fans(place, masks):
    """The places beside a place, parted: in one fan one comes from each to each over places in it.

    So the ties from the place to one fan hang together by the triangles at the place,
    and triangles at the places tell all of which ties hang together.
    """
    fans = []
    rest = masks[place]
    while rest:
        fan = []
        waiting = [(rest & -rest).bit_length() - 1]
        rest = rest & (rest - 1)
        while waiting:
            last = waiting.pop()
            fan.append(last)
            waiting.extend(bits_of(rest & masks[last]))
            rest = rest & ~masks[last]
        fans.append(fan)
    return fans


def sheets(web):
    """The sheets of a web."""
    ask_web(web, "web")
    number = {tie: k for k, tie in enumerate(web.ties)}
    masks = web_masks(web)
    beside = [[] for _ in web.ties]
    for place in range(web.many):
        for fan in _fans(place, masks):
            told = [number[(min(place, near), max(place, near))] for near in fan]
            # All ties of a fan hang on its first one.
            for one in told[1:]:
                beside[told[0]].append(one)
                beside[one].append(told[0])
    return tuple([tuple([web.ties[k] for k in sheet]) for sheet in clusters_by(beside)])


def sheet_of(web, tie):
    """The sheet in which a tie of a web is."""
    ask_web(web, "web")
    if not is_row(tie, 2, web.many) or not web.is_tied(tie[0], tie[1]):
        raise BadPairs("tie")
    ascending = (min(tie[0], tie[1]), max(tie[0], tie[1]))
    return [sheet for sheet in sheets(web) if ascending in sheet][0]


def sheet_web(sheet):
    """The places on a sheet, ascending, and the web that it makes of them: its place k is places[k]."""
    places = sorted({place for tie in sheet for place in tie})
    number = {place: k for k, place in enumerate(places)}
    return places, Web(len(places), [(number[low], number[high]) for low, high in sheet])


def clusters_of(web):
    """The clusters of a web."""
    ask_web(web, "web")
    return clusters_by([web.beside(place) for place in range(web.many)])
