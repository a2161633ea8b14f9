"""The layings of each cluster of a web."""

from justthese.courses import Search, course
from justthese.masks import web_masks
from justthese.patches import Ground, quilt_patches, quilted_rows
from justthese.sheets import clusters_of, sheets

# In a cluster of no more places a search from place to place is short, and sheets may have many layings.
MOST_SEARCHED = 24


class Layer:
    """The search for the layings of the clusters of a web into another one.

    If it is free, rows may come in any order; otherwise those of clusters of few places come as the search from
    place to place tells them.
    """

    def __init__(self, web, other, free=False):
        self.web = web
        self.other = other
        self.free = free
        self.masks = web_masks(other)
        self.sheets_at = None
        self.ground = None
        self.known = {}

    def laid(self, cluster, most):
        """The places of a cluster in some order, and the rows that they may get: all, or more than most."""
        rows = None
        if len(cluster) > MOST_SEARCHED:
            rows = self.quilted(cluster, most)
        elif self.free:
            rows = self.quilted(cluster, most, True)
        if rows is not None:
            return list(cluster), rows
        order, behind = course(self.web, cluster)
        if behind not in self.known:
            self.known[behind] = Search(order, behind, self.masks).found_rows(most)
        return order, self.known[behind]

    def sheets_of(self, cluster):
        """The sheets of a cluster."""
        if self.sheets_at is None:
            self.sheets_at = {}
            for sheet in sheets(self.web):
                self.sheets_at.setdefault(sheet[0][0], []).append(sheet)
        return [sheet for place in cluster for sheet in self.sheets_at.get(place, [])]

    def quilted(self, cluster, most, just_strips=False):
        """The rows that a cluster of patches (or just of strips) may get: all, or more than most.

        None if it is none, or too great.
        """
        patches = quilt_patches(self.sheets_of(cluster))
        if patches is None:
            return None
        if self.ground is None:
            self.ground = Ground(self.other)
        if just_strips and not self.ground.are_strips(patches):
            return None
        return quilted_rows(cluster, patches, self.ground, most)


def laid_parts(web, other, most, free=False):
    """For each cluster of a web its places, and the rows that they may get in another one: all, or more than most.

    Once there are more than most in all, one row stands for all rows of a cluster. Where a cluster has none,
    it is the last one that is told. Rows that are free may be told in any order, which is sooner at times.
    """
    layer = Layer(web, other, free)
    parts = []
    total = 1
    for cluster in clusters_of(web):
        order, rows = layer.laid(cluster, most if total <= most else 0)
        parts.append((order, rows))
        total = total * len(rows)
        if total == 0:
            break
    return parts
