"""Whether papers of ways between rooms, and of orders, are right, whatever else is due."""

from justthese.checks import is_row, is_within
from justthese.houses import Housed, Restless, ask_ways, is_loose, is_way_moved, judged_house, loops_at
from justthese.orders import Adrift, Gap, Ordered, ask_truths, is_gap, judged_order
from justthese.sameness import is_due
from justthese.tables import Triple


def _is_restless(rooms, ways, rows, room, moved):
    """Whether any values are a room, and for each way from it to itself a way that it moves."""
    if not is_within(room, 0, rooms - 1):
        return False
    loops = loops_at(ways, room)
    if not is_row(moved, len(loops), len(ways)):
        return False
    return all([is_way_moved(ways, rows, loop, other) for loop, other in zip(loops, moved)])


def shows_house(rooms, ways, rows, value):
    """Whether any value is a right paper of ways between rooms."""
    ask_ways(rooms, ways, rows)
    if type(value) == Housed:
        return is_due(judged_house(rooms, ways, rows), value)
    if type(value) == Restless:
        return _is_restless(rooms, ways, rows, value.room, value.moved)
    if type(value) == Triple:
        return is_row(value.parts, None, len(ways)) and is_loose(ways, rows, value.one, value.other, value.third)
    return False


def shows_order(rows, value):
    """Whether any value is a right paper of truths."""
    ask_truths(rows)
    many = len(rows)
    if type(value) == Ordered:
        return is_due(judged_order(rows), value)
    if type(value) == Adrift:
        return is_within(value.place, 0, many - 1) and not rows[value.place][value.place]
    if type(value) == Gap:
        return is_row(value.parts, None, many) and is_gap(rows, value.one, value.other, value.third)
    return False
