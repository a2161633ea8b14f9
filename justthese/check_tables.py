"""Whether papers of squares and of lots are right, whatever else is due."""

from justthese.checks import is_row
from justthese.lots import Complete, NoStill, Outside, judged_lot, lot_of, still_move
from justthese.maps import then
from justthese.sameness import is_due
from justthese.tables import Deeds, Triple, Unstill, ask_square, is_moved, is_triple, judged_table


def shows_table(rows, value):
    """Whether any value is a right paper of a square."""
    ask_square(rows)
    many = len(rows)
    if type(value) == Deeds:
        return is_due(judged_table(rows), value)
    if type(value) == Unstill:
        if not is_row(value.moved, many, many):
            return False
        return all([is_moved(rows, member, other) for member, other in enumerate(value.moved)])
    if type(value) == Triple:
        return is_row(value.parts, None, many) and is_triple(rows, value.one, value.other, value.third)
    return False


def _is_in(move, lot):
    """Whether any value is a move of a lot."""
    many = len(lot[0])
    return is_row(move, many, many) and tuple(move) in lot


def shows_moves(moves, value):
    """Whether any value is a right paper of a lot."""
    lot = lot_of(moves)
    if type(value) == Complete:
        return is_due(judged_lot(lot), value)
    if type(value) == NoStill:
        return still_move(lot) not in lot
    if type(value) == Outside:
        if not _is_in(value.one, lot) or not _is_in(value.other, lot):
            return False
        return then(value.one, value.other) not in lot
    return False
