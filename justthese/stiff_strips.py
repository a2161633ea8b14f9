"""Closed strips whose only laying into themselves is the still one: their codes tell the layings between them."""

from justthese.strips import LEAST_CLOSED, MOST_CLOSED, judged_code, judged_strip


def stiff_strip(web):
    """What a web is, as a closed strip with no laying into itself but the still one; None if it is none."""
    told = judged_strip(web)
    return told if told and judged_code(told.code) else None


def rows_of_strips(one, other):
    """All layings of one such strip into another one of as many letters: just one if they have one code."""
    if one.code != other.code:
        return []
    image_of = {place: image for place, image in zip(one.names, other.names)}
    return [tuple([image_of[place] for place in range(len(one.names))])]


def strip_rows(web, other):
    """All layings of a web into another one of as many places, if both are such strips; otherwise None."""
    one = stiff_strip(web)
    two = stiff_strip(other) if one is not None else None
    return rows_of_strips(one, two) if two is not None else None


def may_be_strips(told):
    """Whether sheets have as many ties as closed strips, which have one more than twice their triangles."""
    triangles = [len(sheet) // 2 for sheet in told if len(sheet) % 2 == 1]
    return len(triangles) == len(told) and min(triangles) >= LEAST_CLOSED and max(triangles) <= MOST_CLOSED


class Strips:
    """Which patches are such strips, worked out once for all patches of one pattern."""

    def __init__(self):
        self.known = {}

    def strip_of(self, patch):
        """What the web of a patch is as such a strip, or None."""
        if patch.pattern not in self.known:
            self.known[patch.pattern] = stiff_strip(patch.web)
        return self.known[patch.pattern]

    def are_strips(self, patches):
        """Whether all patches are such strips: then each has few layings, which are found soon."""
        return None not in [self.strip_of(patch) for patch in patches]

    def rows_between(self, one, other):
        """All layings of a patch into another one, if both are such strips of as many letters; otherwise None."""
        if one.web.many != other.web.many:
            return None
        strip, there = self.strip_of(one), self.strip_of(other)
        return rows_of_strips(strip, there) if strip is not None and there is not None else None
