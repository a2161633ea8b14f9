"""Clusters: what one comes to, from each to one beside it."""


def _reached(first, beside, seen):
    """All to which one comes from the first one, ascending; they are marked as seen."""
    cluster = []
    waiting = [first]
    seen[first] = True
    while waiting:
        last = waiting.pop()
        cluster.append(last)
        for near in beside[last]:
            if near not in seen:
                seen[near] = True
                waiting.append(near)
    return tuple(sorted(cluster))


def clusters_by(beside):
    """The ascending clusters of what is numbered from 0, and has for each number a list of those beside it."""
    found = []
    seen = {}
    for first in range(len(beside)):
        if first not in seen:
            found.append(_reached(first, beside, seen))
    return tuple(found)
