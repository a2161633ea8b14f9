"""Lots of moves, their worlds and webs, and the tables of complete lots."""

from justthese.checks import is_row
from justthese.deeds import composed
from justthese.errors import BadMap, BadMoves, Misfit, TooMany
from justthese.maps import then
from justthese.papers import Denial, Paper
from justthese.tables import MOST_MEMBERS, Table
from justthese.ways import SPREAD
from justthese.world_webs import laying_of, row_of, web_of
from justthese.worlds import World

MOST_MOVES = 60
MOST_SPOTS = 8


class Complete(Paper):
    """A lot is complete."""

    def __init__(self):
        Paper.__init__(self, "complete")


class NoStill(Denial):
    """The still move is not in a lot."""

    def __init__(self):
        Denial.__init__(self, "nostill")


class Outside(Denial):
    """One move of a lot, then another one, is not in it."""

    def __init__(self, one, other):
        Denial.__init__(self, "outside", one, other)
        self.one = self.parts[0]
        self.other = self.parts[1]


def _is_move(value):
    """Whether any value is a move of as many spots as it has entries."""
    if not isinstance(value, (list, tuple)) or len(value) < 1 or len(value) > MOST_SPOTS:
        return False
    return is_row(value, None, len(value))


def lot_of(moves):
    """The moves of a lot, ascending, each once; raises unless a value tells a lot."""
    if not isinstance(moves, (list, tuple)) or len(moves) < 1 or len(moves) > MOST_MOVES:
        raise BadMoves("moves")
    if not all([_is_move(move) for move in moves]) or len({len(move) for move in moves}) > 1:
        raise BadMoves("moves")
    return sorted({tuple(move) for move in moves})


def still_move(lot):
    """The still move of the spots of a lot."""
    return tuple(range(len(lot[0])))


def _least_outside(lot):
    """The least two moves of a lot of which the one then the other is not in it, or None."""
    there = {move: True for move in lot}
    for one in lot:
        for other in lot:
            if then(one, other) not in there:
                return one, other
    return None


def judged_lot(lot):
    """Whether a lot, told ascending, is complete."""
    if still_move(lot) not in lot:
        return NoStill()
    pair = _least_outside(lot)
    return Complete() if pair is None else Outside(pair[0], pair[1])


def judged_moves(moves):
    """Whether a lot is complete."""
    return judged_lot(lot_of(moves))


def completed(moves):
    """The least complete lot with some moves, ascending."""
    lot = lot_of(moves)
    found = [still_move(lot)]
    there = {found[0]: True}
    # What is found is gone through as it grows: each one, then each move that is told.
    at = 0
    while at < len(found):
        for move in lot:
            longer = then(found[at], move)
            if longer not in there:
                there[longer] = True
                found.append(longer)
        if len(found) > MOST_MOVES:
            raise TooMany("moves", MOST_MOVES)
        at += 1
    return tuple(sorted(found))


def _still_lot(moves):
    """The moves of a lot, ascending; raises if the still move is not among them."""
    lot = lot_of(moves)
    if still_move(lot) not in lot:
        raise Misfit("moves")
    return lot


def lot_world(moves):
    """The world of a lot."""
    lot = _still_lot(moves)
    return World((len(lot[0]),), len(lot[0]), [lot])


def lot_web(moves):
    """The web of a lot."""
    return web_of(lot_world(moves), SPREAD)


def passing_moves(moves):
    """The moves of a lot that pass, ascending."""
    lot = _still_lot(moves)
    there = {move: True for move in lot}
    return tuple([move for move in lot if all([then(ahead, move) in there for ahead in lot])])


def move_laying(moves, move):
    """The laying of a lot's web into itself that comes of a move that passes."""
    world = lot_world(moves)
    if not is_row(move, world.many, world.many) or tuple(move) not in passing_moves(moves):
        raise BadMap("move")
    return laying_of(world, world, move, SPREAD)


def move_of(moves, laying):
    """The move of which a laying of a lot's web into itself comes."""
    world = lot_world(moves)
    return row_of(world, world, laying, SPREAD)


def lot_table(moves):
    """The table of a complete lot."""
    lot = lot_of(moves)
    if not judged_lot(lot):
        raise Misfit("moves")
    if len(lot) > MOST_MEMBERS:
        raise TooMany("deeds", MOST_MEMBERS)
    return Table(composed(lot))
