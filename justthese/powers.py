"""Powers of worlds, whose places are functions, and maps of products turned into maps into powers."""

from justthese.asking import ask_one_signature, ask_world, ask_worlds
from justthese.errors import BadMap, Misfit, TooMany
from justthese.maps import is_map
from justthese.sums import times
from justthese.worlds import World

MOST_FUNCTIONS = 81
MOST_TUPLES = 1000


def _all_tuples(many, length):
    """All tuples of so many numbers below many, ascending."""
    rows = [()]
    for _ in range(length):
        rows = [row + (number,) for row in rows for number in range(many)]
    return rows


def _count_to(many, length, most):
    """How many tuples of so many numbers below many there are; if that is more than most, a number above it."""
    count = 1
    for _ in range(length):
        if count <= most:
            count = count * many
    return count


def _functions(world, other):
    """All functions of the places of a world into those of another one; raises if they are too many."""
    if _count_to(other.many, world.many, MOST_FUNCTIONS) > MOST_FUNCTIONS:
        raise TooMany("places", MOST_FUNCTIONS)
    return _all_tuples(other.many, world.many)


def functions(world, other):
    """All functions of the places of a world into those of another one, ascending."""
    ask_worlds(world, other)
    ask_one_signature(world, other)
    return tuple(_functions(world, other))


def _is_power_row(functions_told, rows, others):
    """Whether functions, each at its place of each row, tell one of the other rows; these are keys of a dict."""
    for row in rows:
        if tuple([function[place] for function, place in zip(functions_told, row)]) not in others:
            return False
    return True


def power(world, other):
    """Another world to the power of a world."""
    told = functions(world, other)
    if sum([_count_to(len(told), length, MOST_TUPLES) for length in world.lengths]) > MOST_TUPLES:
        raise TooMany("tuples", MOST_TUPLES)
    rows = []
    for length, there, others in zip(world.lengths, world.rows, other.rows):
        due = {row: True for row in others}
        numbers = _all_tuples(len(told), length)
        rows.append([row for row in numbers if _is_power_row([told[number] for number in row], there, due)])
    return World(world.lengths, len(told), rows)


def _product_and_power(first, world, other):
    """The product of a first world and a second one, and a third one to the power of the second."""
    ask_world(first, "first")
    ask_worlds(world, other)
    if world.lengths != first.lengths:
        raise Misfit("world")
    ask_one_signature(first, other)
    return times(first, world), power(world, other)


def curried(first, world, other, row):
    """The map of a first world into a power that comes of a map of a product."""
    product, _ = _product_and_power(first, world, other)
    if not is_map(product, other, row):
        raise BadMap("row")
    number = {function: k for k, function in enumerate(functions(world, other))}
    many = world.many
    return tuple([number[tuple(row[place * many : (place + 1) * many])] for place in range(first.many)])


def uncurried(first, world, other, row):
    """The map of a product of which a map of a first world into a power comes."""
    _, raised = _product_and_power(first, world, other)
    if not is_map(first, raised, row):
        raise BadMap("row")
    told = functions(world, other)
    return tuple([value for number in row for value in told[number]])
