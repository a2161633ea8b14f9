"""The layings of each cluster of a web."""

from justthese.courses import Search, course
from justthese.masks import web_masks
from justthese.patches import Ground, quilt_patches, quilted_rows
from justthese.sheets import clusters_of, sheets


class Layer:
    """The search for the layings of the clusters of a web into another one."""

    def __init__(self, web, other):
        self.web = web
        self.other = other
        self.masks = web_masks(other)
        self.sheets_at = {}
        for sheet in sheets(web):
            self.sheets_at.setdefault(sheet[0][0], []).append(sheet)
        self.ground = None
        self.known = {}

    def laid(self, cluster, most):
        """The places of a cluster in some order, and the rows that they may get: all, or more than most."""
        told = [sheet for place in cluster for sheet in self.sheets_at.get(place, [])]
        patches = quilt_patches(told)
        rows = None if patches is None else self.quilted(cluster, patches, most)
        if rows is not None:
            return list(cluster), rows
        order, behind = course(self.web, cluster)
        if behind not in self.known:
            self.known[behind] = Search(order, behind, self.masks).found_rows(most)
        return order, self.known[behind]

    def quilted(self, cluster, patches, most):
        """The rows that the places of a cluster of patches may get, or None; the other web's patches are made once."""
        if self.ground is None:
            self.ground = Ground(self.other)
        return quilted_rows(cluster, patches, self.ground, most)


def laid_parts(web, other, most):
    """For each cluster of a web its places, and the rows that they may get in another one: all, or more than most.

    Once there are more than most in all, one row stands for all rows of a cluster. Where a cluster has none,
    it is the last one that is told.
    """
    layer = Layer(web, other)
    parts = []
    total = 1
    for cluster in clusters_of(web):
        order, rows = layer.laid(cluster, most if total <= most else 0)
        parts.append((order, rows))
        total = total * len(rows)
        if total == 0:
            break
    return parts
