"""The deeds of a desk: what each of them makes of the worlds that are kept."""

from math import isqrt

from justthese.errors import BadNumber, BadTable
from justthese.powers import power
from justthese.sums import added, times
from justthese.table_webs import table_world
from justthese.tables import Table
from justthese.worlds import World


def _new_world(_, name, count):
    """A world with so many places, and no relations."""
    return name, World((), count, ()), f"world {name}"


def _new_relation(kept, name, length):
    """A world with a further relation."""
    world = kept[name]
    further = World(world.lengths + (length,), world.many, world.rows + ((),))
    return name, further, f"relation {len(world.lengths)}"


def _new_row(kept, name, relation, row):
    """A world with a further row of a relation."""
    world = kept[name]
    if relation >= len(world.lengths):
        raise BadNumber("relation")
    rows = list(world.rows)
    rows[relation] = rows[relation] + (row,)
    further = World(world.lengths, world.many, rows)
    return name, further, f"rows {len(further.rows[relation])}"


def _new_table(_, name, counts):
    """The world of a table, which is told row by row."""
    size = isqrt(len(counts))
    if size * size != len(counts):
        raise BadTable("rows")
    table = Table([counts[size * k : size * (k + 1)] for k in range(size)])
    return name, table_world(table), f"deeds {len(table)} still {table.still}"


def _made_of_two(name, world):
    """A world that is made of two, with its size."""
    many_rows = sum([len(rows) for rows in world.rows])
    return name, world, f"places {world.many} rows {many_rows}"


def _new_sum(kept, one, other, name):
    """The sum of two worlds."""
    return _made_of_two(name, added(kept[one], kept[other]))


def _new_product(kept, one, other, name):
    """The product of two worlds."""
    return _made_of_two(name, times(kept[one], kept[other]))


def _new_power(kept, one, other, name):
    """The second one of two worlds to the first one."""
    return _made_of_two(name, power(kept[one], kept[other]))


def _dropped(kept, name):
    """No world."""
    return name, None, f"left {len(kept) - 1}"


DEEDS = {
    "world": _new_world,
    "relation": _new_relation,
    "row": _new_row,
    "table": _new_table,
    "sum": _new_sum,
    "product": _new_product,
    "power": _new_power,
    "drop": _dropped,
}


def is_deed(word):
    """Whether a first word of a line tells a deed that changes what is kept."""
    return word in DEEDS


def changed(kept, told):
    """What a deed changes in the worlds that are kept: a name, its world then, or None, and the answer."""
    deed = DEEDS[told[0]]
    behind = told[1:]
    return deed(kept, *behind)
