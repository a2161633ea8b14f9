"""The layings of each cluster of a web."""

from justthese.courses import Search, course
from justthese.masks import web_masks
from justthese.patches import Ground, quilt_patches, quilted_rows
from justthese.sheets import clusters_of, sheets
from justthese.stiff_strips import Strips, may_be_strips, strip_rows

# In a cluster of no more places a search from place to place is short, and sheets may have many layings.
MOST_SEARCHED = 24
# Webs of closed strips have less than three ties for each place; where there are more, a search has much to find soon.
MOST_TIES_A_PLACE = 3


class Layer:
    """The search for the layings of the clusters of a web into another one.

    If it is free, rows may come in any order; otherwise those of clusters of few places come as the search from
    place to place tells them.
    """

    def __init__(self, web, other, free=False):
        self.web = web
        self.other = other
        self.free = free
        self.masks = web_masks(other)
        self.sheets_at = None
        self.strips = Strips()
        self.ground = None
        self.known = {}

    def laid(self, cluster, most):
        """The places of a cluster in some order, and the rows that they may get: all, or more than most."""
        rows = self.joined(cluster, most)
        if rows is not None:
            return list(cluster), rows
        order, behind = course(self.web, cluster)
        if behind not in self.known:
            self.known[behind] = Search(order, behind, self.masks).found_rows(most)
        return order, self.known[behind]

    def joined(self, cluster, most):
        """The rows that a cluster may get, told by its sheets: all, or more than most; None if a search is better."""
        if len(cluster) == self.web.many and len(cluster) == self.other.many:
            rows = strip_rows(self.web, self.other)
            if rows is not None:
                return rows
        if len(cluster) > MOST_SEARCHED:
            return self.quilted(cluster, most)
        return self.quilted_strips(cluster, most) if self.free else None

    def sheets_of(self, cluster):
        """The sheets of a cluster."""
        if self.sheets_at is None:
            self.sheets_at = {}
            for sheet in sheets(self.web):
                self.sheets_at.setdefault(sheet[0][0], []).append(sheet)
        return [sheet for place in cluster for sheet in self.sheets_at.get(place, [])]

    def quilted(self, cluster, most):
        """The rows that a cluster of patches may get: all, or more than most; None if it is none, or too great."""
        told = self.sheets_of(cluster)
        patches = quilt_patches(told) if len(told) > 1 else None
        return self.rows_by(cluster, patches, most) if patches is not None else None

    def quilted_strips(self, cluster, most):
        """The rows that a cluster of stiff strips, one or more, may get: all, or more than most; None if it is none."""
        if len(self.other.ties) > MOST_TIES_A_PLACE * self.other.many:
            return None
        told = self.sheets_of(cluster)
        patches = quilt_patches(told) if len(told) > 0 and may_be_strips(told) else None
        if patches is None or not self.strips.are_strips(patches):
            return None
        return self.rows_by(cluster, patches, most)

    def rows_by(self, cluster, patches, most):
        """The rows that a cluster of these patches may get: all, or more than most; None if that asks for too much."""
        if self.ground is None:
            self.ground = Ground(self.other, self.strips)
        return quilted_rows(cluster, patches, self.ground, most)


def laid_parts(web, other, most, free=False):
    """For each cluster of a web its places, and the rows that they may get in another one: all, or more than most.

    Once there are more than most in all, one row stands for all rows of a cluster. Where a cluster has none,
    it is the last one that is told. Rows that are free may be told in any order, which is sooner at times.
    """
    layer = Layer(web, other, free)
    parts = []
    total = 1
    for cluster in clusters_of(web):
        order, rows = layer.laid(cluster, most if total <= most else 0)
        parts.append((order, rows))
        total = total * len(rows)
        if total == 0:
            break
    return parts
