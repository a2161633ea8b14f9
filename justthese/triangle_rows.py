"""Triangles in a row, each with a tie in common with the next one: the places and the code that they tell."""


def _neighbours(told):
    """For each triangle those with which it has a tie in common."""
    by_tie = {}
    for k, (one, other, third) in enumerate(told):
        for tie in ((one, other), (one, third), (other, third)):
            by_tie.setdefault(tie, []).append(k)
    near = [[] for _ in told]
    for held in by_tie.values():
        for k in held:
            near[k].extend([other for other in held if other != k])
    return near


def row_of_triangles(told):
    """Triangles put in a row, such that just neighbours have a tie in common; None if there is no such row.

    The same row from its other end is the only other one.
    """
    near = _neighbours(told)
    ends = [k for k, beside in enumerate(near) if len(beside) == 1]
    if len(ends) != 2 or max([len(beside) for beside in near]) > 2:
        return None
    row = [ends[0]]
    while row[-1] != ends[1]:
        row.append([k for k in near[row[-1]] if k not in row[-2:]][0])
    # What is not reached from an end is another part, so there is more than one row.
    if len(row) < len(told):
        return None
    return [told[k] for k in row]


def places_along(row):
    """The places of a strip from tip to tip, by the row of its triangles.

    As just neighbours have a tie in common, each place is told by what it lies in and what it does not.
    """
    first, second, third = row[0], row[1], row[2]
    told = [
        [place for place in first if place not in second],
        [place for place in first if place in second and place not in third],
        [place for place in first if place in second and place in third],
    ]
    for last, here in zip(row, row[1:]):
        told.append([place for place in here if place not in last])
    return [places[0] for places in told]


def code_along(row):
    """The code of a strip, by the row of its triangles."""
    common = [
        [place for place in one if place in other and place in third]
        for one, other, third in zip(row, row[1:], row[2:])
    ]
    return "".join(["0" if here == behind else "1" for here, behind in zip(common, common[1:])])
