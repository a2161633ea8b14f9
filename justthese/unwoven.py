"""Woven webs taken apart again into the plan of which they are woven."""

from justthese.asking import has_each_once
from justthese.boxes import ask_box
from justthese.clasps import Bare
from justthese.errors import TooMany
from justthese.layings import some_laying
from justthese.marks import mark_of
from justthese.papers import Denial, Paper
from justthese.plans import ARROW_LENGTH
from justthese.sheets import sheet_web, sheets
from justthese.strips import judged_strip
from justthese.webs import ask_web
from justthese.worlds import MOST_PLACES, World


class Unwoven(Paper):
    """A web is woven of this plan, renamed."""

    def __init__(self, world, names):
        Paper.__init__(self, "unwoven", world, names)
        self.world = self.parts[0]
        self.names = self.parts[1]


class Strange(Denial):
    """The sheet of a tie is no clasp of the box, renamed."""

    def __init__(self, tie):
        Denial.__init__(self, "strange", tie)
        self.tie = self.parts[0]


class Shared(Denial):
    """A place is an inner place of one copy, and lies in another one, too."""

    def __init__(self, place):
        Denial.__init__(self, "shared", place)
        self.place = self.parts[0]


class Twice(Denial):
    """A tie is in a sheet that has the kind, the first and the last end of an earlier one."""

    def __init__(self, tie):
        Denial.__init__(self, "twice", tie)
        self.tie = self.parts[0]


class Kinds:
    """The clasps of a box: closed strips by their codes, others by what a sheet shows of them soon."""

    def __init__(self, box):
        self.clasps = box.clasps
        self.sizes = {(clasp.web.many, len(clasp.web.ties)): True for clasp in box.clasps}
        self.strips = {}
        self.marks = {}
        for kind, clasp in enumerate(box.clasps):
            if clasp.code is not None:
                # No two clasps of a box have one code: then each would have a laying into the other.
                self.strips[clasp.code] = (kind, judged_strip(clasp.web).names)
            else:
                mark, _ = mark_of(clasp.web)
                self.marks.setdefault(mark, []).append(kind)

    def copy_of(self, sheet):
        """The pair of a kind and the places on which its places lie, if a sheet is a clasp, renamed; or None."""
        places, web = sheet_web(sheet)
        if (len(places), len(sheet)) not in self.sizes:
            return None
        told = judged_strip(web)
        if told:
            return self.strip_copy(places, told)
        mark, _ = mark_of(web)
        for kind in self.marks.get(mark, []):
            # A clasp is stiff: if the sheet is one, renamed, there is no other laying than that renaming.
            laying = some_laying(self.clasps[kind].web, web)
            if laying is not None and has_each_once(laying):
                return kind, tuple([places[place] for place in laying])
        return None

    def strip_copy(self, places, told):
        """The pair of a kind and the places on which its places lie, if a closed strip is a clasp, renamed; or None."""
        if told.code not in self.strips:
            return None
        kind, names = self.strips[told.code]
        copy = [0] * len(names)
        for place, there in zip(names, told.names):
            copy[place] = places[there]
        return kind, tuple(copy)

    def arrow_of(self, kind, copy):
        """The arrow of a copy: its kind and its ends."""
        clasp = self.clasps[kind]
        return kind, copy[clasp.first], copy[clasp.last]


def _shared_place(many, kinds, copies):
    """The least place that is an inner place of one copy and lies in another one, too; or None."""
    held = [0] * many
    for _, copy in copies:
        for place in copy:
            held[place] = held[place] + 1
    shared = [
        copy[inner] for kind, copy in copies for inner in kinds.clasps[kind].inner if held[copy[inner]] > 1
    ]
    return min(shared, default=None)


def _unwoven(box, kinds, copies):
    """The plan, and the names of the places of its woven web; copies are told by their arrows."""
    ends = sorted({place for _, one, other in copies for place in (one, other)})
    if len(ends) > MOST_PLACES:
        raise TooMany("places", MOST_PLACES)
    number = {place: k for k, place in enumerate(ends)}
    names = list(ends)
    rows = [[] for _ in box.clasps]
    # Ends ascend as their numbers do, so these arrows ascend as those of the plan do.
    for kind, one, other in sorted(copies):
        rows[kind].append((number[one], number[other]))
        names.extend([copies[(kind, one, other)][inner] for inner in kinds.clasps[kind].inner])
    return Unwoven(World((ARROW_LENGTH,) * len(box), len(ends), rows), names)


def judged_woven(web, box):
    """Whether a web is a woven web of a box, renamed."""
    ask_web(web, "web")
    ask_box(box)
    for place in range(web.many):
        if len(web.beside(place)) == 0:
            return Bare(place)
    kinds = Kinds(box)
    told = sheets(web)
    copies = []
    for sheet in told:
        copy = kinds.copy_of(sheet)
        if copy is None:
            return Strange(sheet[0])
        copies.append(copy)
    shared = _shared_place(web.many, kinds, copies)
    if shared is not None:
        return Shared(shared)
    by_arrow = {}
    for sheet, (kind, copy) in zip(told, copies):
        arrow = kinds.arrow_of(kind, copy)
        if arrow in by_arrow:
            return Twice(sheet[0])
        by_arrow[arrow] = copy
    return _unwoven(box, kinds, by_arrow)
