"""Courses: the order in which the places of a cluster are laid, and the search along it."""

from heapq import heappop, heappush

MOST_OPEN = 12


def _order(web, cluster):
    """The places of a cluster: first the one with most ties, then each time the one with most laid ones beside it."""
    ties = {place: len(web.beside(place)) for place in cluster}
    laid_beside = {place: 0 for place in cluster}
    order = []
    laid = {}
    queue = [min([(0, 0, -ties[place], place) for place in cluster])]
    while queue:
        _, _, _, place = heappop(queue)
        if place not in laid:
            laid[place] = True
            order.append(place)
            for near in web.beside(place):
                if near not in laid:
                    laid_beside[near] = laid_beside[near] + 1
                    # Of several the one by what was laid last: so one sheet is laid to its end ahead of others.
                    heappush(queue, (-laid_beside[near], -len(order), -ties[near], near))
    return order


def course(web, cluster):
    """The order of a cluster's places, and for each of them the earlier ones beside it, by their steps."""
    order = _order(web, cluster)
    step = {place: k for k, place in enumerate(order)}
    behind = []
    for k, place in enumerate(order):
        behind.append(tuple(sorted([step[near] for near in web.beside(place) if step[near] < k])))
    return order, tuple(behind)


def _open_steps(behind):
    """For each step the earlier ones for which it, or a later one, asks; None where these are too many to keep."""
    last = list(range(len(behind)))
    for k, steps in enumerate(behind):
        for step in steps:
            last[step] = k
    told = []
    now = []
    for k in range(len(behind)):
        now = [step for step in now if last[step] >= k]
        told.append(tuple(now) if len(now) <= MOST_OPEN else None)
        now.append(k)
    return told


class Search:
    """The search for the rows of images along a course."""

    def __init__(self, order, behind, masks):
        self.own = [1 << place for place in order]
        self.behind = behind
        self.masks = masks
        self.every = (1 << len(masks)) - 1
        self.open_steps = _open_steps(behind)
        self.images = [0] * len(behind)
        # For each step: what is still to be tried, how many rows there were ahead of it, and its images that matter.
        self.untried = [0] * len(behind)
        self.ahead = [0] * len(behind)
        self.marks = [None] * len(behind)
        self.dead = {}

    def enter(self, step, many):
        """Begins a step, if anything comes into question for it; whether it does."""
        mark = None
        if self.open_steps[step] is not None:
            # What can follow depends on these images alone: where nothing did, nothing will.
            mark = (step, tuple([self.images[k] for k in self.open_steps[step]]))
            if mark in self.dead:
                return False
        untried = self.every
        for k in self.behind[step]:
            untried = untried & self.masks[self.images[k]]
        self.untried[step] = untried
        self.ahead[step] = many
        self.marks[step] = mark
        return untried > 0

    def leave(self, step, many):
        """Ends a step of which everything is tried."""
        if self.ahead[step] == many and self.marks[step] is not None:
            self.dead[self.marks[step]] = True

    def lay(self, step):
        """Takes the next image of a step: where it can be, the place itself, so that the still laying is found soon."""
        untried = self.untried[step]
        taken = untried & self.own[step]
        if taken == 0:
            taken = untried & -untried
        self.untried[step] = untried ^ taken
        self.images[step] = taken.bit_length() - 1

    def found_rows(self, most):
        """All rows of images along the course, or more than most of them."""
        found = []
        step = 0
        self.enter(0, 0)
        while step >= 0 and len(found) <= most:
            if self.untried[step] == 0:
                self.leave(step, len(found))
                step -= 1
            else:
                self.lay(step)
                if step + 1 == len(self.behind):
                    found.append(tuple(self.images))
                elif self.enter(step + 1, len(found)):
                    step += 1
        return found
