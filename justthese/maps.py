"""Maps of a world into another one: whether, which and how many."""

from justthese.asking import ask_number, ask_one_signature, ask_world, ask_worlds
from justthese.bonds import merged_bonds
from justthese.checks import is_row
from justthese.errors import BadMap, Misfit, TooMany
from justthese.fields import Field
from justthese.joining import joined_rows, with_part
from justthese.reaching import clusters_by

MOST_MAPS = 1000
MOST_OF_CLUSTER = 5000


def _go_into(rows, others, row_of_places):
    """Whether rows, led by a row of places, go to rows of the others."""
    there = set(others)
    for row in rows:
        if tuple([row_of_places[place] for place in row]) not in there:
            return False
    return True


def is_map(world, other, value):
    """Whether any value is a map of a world into another one."""
    ask_worlds(world, other)
    if world.lengths != other.lengths or not is_row(value, world.many, other.many):
        return False
    for rows, others in zip(world.rows, other.rows):
        if not _go_into(rows, others, value):
            return False
    return True


def then(one, other):
    """One row, then another one."""
    if not is_row(one, None, None):
        raise BadMap("one")
    if not is_row(other, None, None):
        raise BadMap("other")
    if not is_row(one, None, len(other)):
        raise Misfit("other")
    return tuple([other[place] for place in one])


def clusters(world):
    """The clusters of a world."""
    ask_world(world, "world")
    beside = [[] for _ in range(world.many)]
    for rows in world.rows:
        for row in rows:
            # All places of a row hang on its first one, so they belong together.
            for place in row[1:]:
                beside[row[0]].append(place)
                beside[place].append(row[0])
    return clusters_by(beside)


def field_of_maps(world, other):
    """The field whose rows of values are the maps of a world into another one."""
    return Field(world.many, other.many, merged_bonds(world, other))


def some_map(world, other):
    """A map of a world into another one of one signature with it, any such; None if there is none."""
    field = field_of_maps(world, other)
    row = [0] * world.many
    for cluster in clusters(world):
        told = field.found(cluster, 0)
        if len(told) == 0:
            return None
        row = with_part(row, cluster, told[0])
    return tuple(row)


def every_map(world, other):
    """All maps of a small world into a small one of one signature with it, in any order."""
    field = field_of_maps(world, other)
    parts = [(cluster, field.found(cluster, MOST_OF_CLUSTER)) for cluster in clusters(world)]
    if [] in [told for _, told in parts]:
        return []
    return joined_rows(world.many, parts)


def maps(world, other, most=300):
    """All maps of a world into another one, at most so many."""
    ask_worlds(world, other)
    ask_number(most, "most", 1, MOST_MAPS)
    ask_one_signature(world, other)
    field = field_of_maps(world, other)
    parts = []
    total = 1
    for cluster in clusters(world):
        # Once there are too many, a cluster can only show that there are none at all.
        told = field.found(cluster, most if total <= most else 0)
        if len(told) == 0:
            return ()
        total = total * len(told)
        parts.append((cluster, told))
    if total > most:
        raise TooMany("maps", most)
    return tuple(sorted([tuple(row) for row in joined_rows(world.many, parts)]))


def count_maps(world, other):
    """How many maps of a world into another one there are."""
    ask_worlds(world, other)
    ask_one_signature(world, other)
    field = field_of_maps(world, other)
    total = 1
    for cluster in clusters(world):
        many = len(field.found(cluster, MOST_OF_CLUSTER))
        if many > MOST_OF_CLUSTER:
            raise TooMany("maps", MOST_OF_CLUSTER)
        total = total * many
    return total
