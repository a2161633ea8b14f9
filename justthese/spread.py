"""The spread of a world: a plan with the places, a knot for each row, and a peg for each place."""

from justthese.asking import ask_lengths, ask_one_signature, ask_world, ask_worlds
from justthese.boxes import MOST_KINDS
from justthese.errors import BadMap, Misfit, TooMany
from justthese.maps import is_map
from justthese.papers import Denial, Paper
from justthese.plans import ARROW_LENGTH, told_arrows
from justthese.worlds import MOST_PLACES, MOST_ROWS, World

# What a place of a spread is, if it is no knot of a relation.
PEG = "peg"
PLACE = "place"


class Unspread(Paper):
    """A plan is the spread of this world, renamed."""

    def __init__(self, world, names):
        Paper.__init__(self, "unspread", world, names)
        self.world = self.parts[0]
        self.names = self.parts[1]


class Wrong(Denial):
    """A place of a plan is none that there can be."""

    def __init__(self, place):
        Denial.__init__(self, "wrong", place)
        self.place = self.parts[0]


class Twins(Denial):
    """Two places of a plan are knots of one relation, with one row."""

    def __init__(self, one, other):
        Denial.__init__(self, "twins", one, other)
        self.one = self.parts[0]
        self.other = self.parts[1]


def ask_plan_size(many, rows, kinds):
    """Raises if a plan would have too many places, rows or relations."""
    if many > MOST_PLACES:
        raise TooMany("places", MOST_PLACES)
    if rows > MOST_ROWS:
        raise TooMany("rows", MOST_ROWS)
    if kinds > MOST_KINDS:
        raise TooMany("kinds", MOST_KINDS)


def ask_plan(plan, kinds):
    """Raises unless a world has so many relations, all of length 2."""
    if plan.lengths != (ARROW_LENGTH,) * kinds:
        raise Misfit("lengths")


def first_kinds(lengths):
    """For each relation of a world the relation of its spread that belongs to index 0 of its rows."""
    return [sum(lengths[:relation]) for relation in range(len(lengths))]


def knots_of(world):
    """For each relation of a world a dict that tells the knot of each row."""
    knots = []
    place = world.many
    for rows in world.rows:
        knots.append({row: place + k for k, row in enumerate(rows)})
        place += len(rows)
    return knots


def spread(world):
    """The spread of a world."""
    ask_world(world, "world")
    many_rows = sum([len(rows) for rows in world.rows])
    many_arrows = world.many + sum([len(rows) * length for rows, length in zip(world.rows, world.lengths)])
    ask_plan_size(2 * world.many + many_rows, many_arrows, sum(world.lengths) + 1)
    rows = []
    for length, knots in zip(world.lengths, knots_of(world)):
        for index in range(length):
            rows.append([(knot, row[index]) for row, knot in knots.items()])
    rows.append([(world.many + many_rows + place, place) for place in range(world.many)])
    return World((ARROW_LENGTH,) * len(rows), 2 * world.many + many_rows, rows)


def spread_row(world, other, row):
    """The map of spreads that a map of a world into another one gives."""
    ask_worlds(world, other)
    ask_one_signature(world, other)
    spread(world)
    many = spread(other).many
    if not is_map(world, other, row):
        raise BadMap("row")
    told = list(row)
    for rows, knots in zip(world.rows, knots_of(other)):
        told.extend([knots[tuple([row[place] for place in there])] for there in rows])
    told.extend([many - other.many + place for place in row])
    return tuple(told)


def _sorts(plan, lengths):
    """For each place of a plan its sort: a relation for a knot, what stands for a peg or a place, or None."""
    last = len(plan.lengths) - 1
    sort_of = {
        tuple(range(first, first + length)): relation
        for relation, (first, length) in enumerate(zip(first_kinds(lengths), lengths))
    }
    sort_of[(last,)] = PEG
    from_there = [[] for _ in range(plan.many)]
    to_there = [[] for _ in range(plan.many)]
    for kind, one, other in told_arrows(plan):
        from_there[one].append(kind)
        to_there[other].append(kind)
    sorts = []
    for begun, ended in zip(from_there, to_there):
        if len(begun) == 0 and ended.count(last) == 1:
            sorts.append(PLACE)
        else:
            sorts.append(sort_of.get(tuple(begun)) if len(ended) == 0 else None)
    return sorts


def _rows_told(plan, sorts):
    """For each knot and each peg of a plan the places to which its arrows lead, in the order of the relations."""
    told = {place: () for place, sort in enumerate(sorts) if sort != PLACE}
    for _, one, other in told_arrows(plan):
        told[one] = told[one] + (other,)
    return told


def _least_twins(knots):
    """The least two knots of one relation with one row, or None; knots are pairs of a place and what it tells."""
    first = {}
    twins = []
    for place, told in knots:
        if told in first:
            twins.append((first[told], place))
        else:
            first[told] = place
    return min(twins, default=None)


def _unspread(lengths, sorts, told):
    """The world of which a plan is the spread, and the names of the places of its spread."""
    places = [place for place, sort in enumerate(sorts) if sort == PLACE]
    number = {place: k for k, place in enumerate(places)}
    rows = [[] for _ in lengths]
    knots = []
    pegs = []
    for place, ends in told.items():
        row = tuple([number[end] for end in ends])
        if sorts[place] == PEG:
            pegs.append((row, place))
        else:
            rows[sorts[place]].append(row)
            knots.append((sorts[place], row, place))
    names = places + [place for _, _, place in sorted(knots)] + [place for _, place in sorted(pegs)]
    return Unspread(World(lengths, len(places), rows), names)


def judged_spread(plan, lengths):
    """Whether a world is the spread, renamed, of a world with these lengths."""
    ask_world(plan, "plan")
    ask_lengths(lengths)
    ask_plan(plan, sum(lengths) + 1)
    sorts = _sorts(plan, lengths)
    if None in sorts:
        return Wrong(sorts.index(None))
    told = _rows_told(plan, sorts)
    twins = _least_twins([(place, (sorts[place], row)) for place, row in told.items() if sorts[place] != PEG])
    if twins is not None:
        return Twins(twins[0], twins[1])
    return _unspread(lengths, sorts, told)
