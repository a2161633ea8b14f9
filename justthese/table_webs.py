"""The worlds and the webs of tables of deeds and of squares: their maps and layings are the deeds."""

from justthese.asking import ask_number
from justthese.errors import Misfit
from justthese.makers import ask_makers, made, some_makers
from justthese.tables import ask_table, still_of
from justthese.ways import DOUBLED
from justthese.world_webs import laying_of, row_of, web_of
from justthese.worlds import World


def _makers_of(table, makers):
    """Makers that are told, or the made ones for None; raises unless they make all deeds."""
    if makers is None:
        return some_makers(table)
    ask_makers(table, makers)
    if len(made(table, makers)) < len(table):
        raise Misfit("makers")
    return makers


def world_by(rows, makers):
    """The world with the members of a square as places, and for each maker the rows (x, maker then x)."""
    told = [[(x, rows[maker][x]) for x in range(len(rows))] for maker in makers]
    return World((2,) * len(told), len(rows), told)


def table_world(table, makers=None):
    """The world of a table for some makers."""
    ask_table(table, "table")
    return world_by(table.rows, _makers_of(table, makers))


def table_web(table, makers=None):
    """The web of a table for some makers."""
    return web_of(table_world(table, makers), DOUBLED)


def deed_row(table, deed):
    """The map of a deed: x then this deed, for all deeds x."""
    ask_table(table, "table")
    ask_number(deed, "deed", 0, len(table) - 1)
    return tuple([row[deed] for row in table.rows])


def deed_laying(table, deed, makers=None):
    """The laying of a table's web into itself that comes of the map of a deed."""
    row = deed_row(table, deed)
    world = table_world(table, makers)
    return laying_of(world, world, row, DOUBLED)


def deed_of(table, laying, makers=None):
    """The deed of which a laying of a table's web into itself comes."""
    world = table_world(table, makers)
    # The still deed, then a deed, is this deed.
    return row_of(world, world, laying, DOUBLED)[table.still]


def _still_of(rows):
    """The still member of a square; raises if there is none."""
    still = still_of(rows)
    if still is None:
        raise Misfit("rows")
    return still


def square_world(rows):
    """The world of a square."""
    still = _still_of(rows)
    return world_by(rows, [member for member in range(len(rows)) if member != still])


def square_web(rows):
    """The web of a square."""
    return web_of(square_world(rows), DOUBLED)


def passing(rows):
    """The members of a square that pass, ascending."""
    _still_of(rows)
    members = range(len(rows))
    return tuple([
        deed
        for deed in members
        if all([rows[rows[one][x]][deed] == rows[one][rows[x][deed]] for one in members for x in members])
    ])
