"""Patches: the sheets of a web, each of which is laid into one sheet; together they are all layings of a cluster.

A search from place to place can go far astray in a cluster of many sheets. So sheets of few places are laid
first, each alone; then their layings are joined on the places that lie in several of them.
"""

from justthese.bonds import Bond, Lot
from justthese.courses import Search, course
from justthese.fields import Field
from justthese.joining import joined_rows
from justthese.marks import mark_of
from justthese.masks import web_masks
from justthese.sheets import sheet_web, sheets
from justthese.webs import renamed_web

LEAST_TIES = 3
MOST_PATCH_PLACES = 20
MOST_PATCH_ROWS = 2000
MOST_PATTERN_PAIRS = 10000


class Patch:
    """A sheet of triangles: its places, and the web of them; place k of this is places[k]."""

    def __init__(self, sheet):
        self.places, self.web = sheet_web(sheet)
        if self.web.many <= MOST_PATCH_PLACES:
            self.put_in_order()
        self.pattern = (self.web.many, self.web.ties)

    def put_in_order(self):
        """Orders the places by their colours: so most sheets that are the same but for names get one pattern."""
        _, colours = mark_of(self.web)
        order = [place for _, place in sorted(zip(colours, range(self.web.many)))]
        number = {place: k for k, place in enumerate(order)}
        self.web = renamed_web(self.web, [number[place] for place in range(self.web.many)])
        self.places = [self.places[place] for place in order]


def patches_of(told):
    """The patches of sheets, those without a triangle left out."""
    return [Patch(sheet) for sheet in told if len(sheet) >= LEAST_TIES]


def _searched_rows(one, other, most):
    """All layings of the web of a patch into that of another one, or more than most of them, by a search."""
    order, behind = course(one.web, list(range(one.web.many)))
    rows = []
    for images in Search(order, behind, web_masks(other.web)).found_rows(most):
        image_of = {place: image for place, image in zip(order, images)}
        rows.append([image_of[place] for place in range(one.web.many)])
    return rows


class Ground:
    """A web into which patches are laid."""

    def __init__(self, web, strips):
        self.many = web.many
        self.strips = strips
        self.by_pattern = {}
        for patch in patches_of(sheets(web)):
            self.by_pattern.setdefault(patch.pattern, []).append(patch)
        self.known = {}

    def rows_for(self, patch):
        """All layings of a patch, as rows of images of its places; None if they are too many to be kept."""
        if patch.pattern not in self.known:
            self.known[patch.pattern] = self.found_for(patch)
        return self.known[patch.pattern]

    def found_for(self, patch):
        """All layings of a patch, worked out once for all patches of its pattern."""
        found = []
        for there in self.by_pattern.values():
            rows = self.strips.rows_between(patch, there[0])
            if rows is None:
                rows = _searched_rows(patch, there[0], MOST_PATCH_ROWS)
            if len(found) + len(rows) * len(there) > MOST_PATCH_ROWS:
                return None
            found.extend([tuple([other.places[image] for image in row]) for other in there for row in rows])
        return found


def _shared_places(patches):
    """The places that lie in several patches, each with a number."""
    seen = {}
    shared = {}
    for patch in patches:
        for place in patch.places:
            if place in seen and place not in shared:
                shared[place] = len(shared)
            seen[place] = True
    return shared


class Joint:
    """The layings of a patch by the images of those places of it that lie in other patches, too."""

    def __init__(self, rows, slots):
        self.by_images = {}
        for row in rows:
            self.by_images.setdefault(tuple([row[slot] for slot in slots]), []).append(row)


class Quilt:
    """The patches of a cluster, joined on the places that lie in several of them."""

    def __init__(self, patches, ground):
        self.patches = patches
        self.shared = _shared_places(patches)
        self.joints = []
        self.bonds = []
        known = {}
        for patch in patches:
            slots = tuple([k for k, place in enumerate(patch.places) if place in self.shared])
            key = (patch.pattern, slots)
            if key not in known:
                joint = Joint(ground.rows_for(patch), slots)
                known[key] = (joint, Lot(list(joint.by_images), len(slots), ground.many))
            self.joints.append(known[key][0])
            self.bonds.append(Bond([self.shared[patch.places[slot]] for slot in slots], known[key][1]))
        self.field = Field(len(self.shared), ground.many, self.bonds)

    def rows_on(self, cluster, most):
        """All rows of images of the places of a cluster, or more than most of them."""
        number = {place: k for k, place in enumerate(cluster)}
        found = []
        for images in self.field.found(list(range(len(self.shared))), most):
            if len(found) <= most:
                parts = self.parts_by(images, number, most - len(found))
                found.extend([tuple(row) for row in joined_rows(len(cluster), parts)])
        return found

    def parts_by(self, images, number, most):
        """For each patch its places and the rows that they may get, by the images of the shared places.

        Once there are more than most in all, one row stands for all rows of a patch.
        """
        total = 1
        parts = []
        for patch, joint, bond in zip(self.patches, self.joints, self.bonds):
            rows = joint.by_images[tuple([images[at] for at in bond.places])]
            rows = rows if total <= most else rows[:1]
            total = total * len(rows)
            parts.append(([number[place] for place in patch.places], rows))
        return parts


def quilt_patches(told):
    """The patches of a cluster with these sheets; None if there is none, a flat one or one of many places."""
    if len(told) == 0 or min([len(sheet) for sheet in told]) < LEAST_TIES:
        return None
    patches = patches_of(told)
    return patches if max([patch.web.many for patch in patches]) <= MOST_PATCH_PLACES else None


def quilted_rows(cluster, patches, ground, most):
    """All rows of images of the places of a cluster, or more than most; None if that asks for too much ahead of it."""
    patterns = {patch.pattern: True for patch in patches}
    if len(patterns) * len(ground.by_pattern) > MOST_PATTERN_PAIRS:
        return None
    known = [ground.rows_for(patch) for patch in patches]
    if None in known:
        return None
    if [] in known:
        return []
    return Quilt(patches, ground).rows_on(cluster, most)
