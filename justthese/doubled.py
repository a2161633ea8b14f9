"""The doubled plan of a world of lengths 1 and 2: a front and a back for each place."""

from justthese.asking import ask_lengths, ask_one_signature, ask_world, ask_worlds
from justthese.errors import BadMap, Misfit
from justthese.maps import is_map
from justthese.papers import Denial, Paper
from justthese.plans import ARROW_LENGTH, told_arrows
from justthese.spread import Wrong, ask_plan, ask_plan_size
from justthese.worlds import World


class Undoubled(Paper):
    """A plan is the doubled plan of this world, renamed."""

    def __init__(self, world, names):
        Paper.__init__(self, "undoubled", world, names)
        self.world = self.parts[0]
        self.names = self.parts[1]


class Astray(Denial):
    """An arrow of a relation of length 1 does not lead to the back of the front from which it goes."""

    def __init__(self, relation, one, other):
        Denial.__init__(self, "astray", relation, one, other)
        self.relation = self.parts[0]
        self.one = self.parts[1]
        self.other = self.parts[2]


def are_short(lengths):
    """Whether lengths are such that a world of them can be doubled."""
    return all([length <= ARROW_LENGTH for length in lengths])


def doubled(world):
    """The doubled plan of a world."""
    ask_world(world, "world")
    if not are_short(world.lengths):
        raise Misfit("world")
    many = world.many
    many_rows = sum([len(rows) for rows in world.rows])
    ask_plan_size(2 * many, many + many_rows, len(world.lengths) + 1)
    rows = [[(place, many + place) for place in range(many)]]
    for there in world.rows:
        # The last place of a row of length 1 is its first one, too.
        rows.append([(row[0], many + row[-1]) for row in there])
    return World((ARROW_LENGTH,) * len(rows), 2 * many, rows)


def doubled_row(world, other, row):
    """The map of doubled plans that a map of a world into another one gives."""
    ask_worlds(world, other)
    ask_one_signature(world, other)
    doubled(world)
    doubled(other)
    if not is_map(world, other, row):
        raise BadMap("row")
    return tuple(row) + tuple([other.many + place for place in row])


def _wrong_place(plan):
    """The least place of a plan that is neither a front nor a back, or None."""
    first_from, first_to, others_from, others_to = [[0] * plan.many for _ in range(4)]
    for kind, one, other in told_arrows(plan):
        begun, ended = (first_from, first_to) if kind == 0 else (others_from, others_to)
        begun[one] = begun[one] + 1
        ended[other] = ended[other] + 1
    for place in range(plan.many):
        is_front = first_from[place] == 1 and first_to[place] + others_to[place] == 0
        is_back = first_to[place] == 1 and first_from[place] + others_from[place] == 0
        if not is_front and not is_back:
            return place
    return None


def judged_doubled(plan, lengths):
    """Whether a world is the doubled plan, renamed, of a world with these lengths."""
    ask_world(plan, "plan")
    ask_lengths(lengths)
    if not are_short(lengths):
        raise Misfit("lengths")
    ask_plan(plan, len(lengths) + 1)
    wrong = _wrong_place(plan)
    if wrong is not None:
        return Wrong(wrong)
    front_of = {back: front for front, back in plan.rows[0]}
    for kind, one, other in told_arrows(plan):
        if kind > 0 and lengths[kind - 1] == 1 and front_of[other] != one:
            return Astray(kind, one, other)
    # Rows ascend, so fronts do.
    number = {front: k for k, (front, _) in enumerate(plan.rows[0])}
    rows = []
    for length, there in zip(lengths, plan.rows[1:]):
        rows.append([(number[one], number[front_of[other]])[:length] for one, other in there])
    names = [front for front, _ in plan.rows[0]] + [back for _, back in plan.rows[0]]
    return Undoubled(World(lengths, len(number), rows), names)
