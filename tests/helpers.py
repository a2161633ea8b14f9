"""What several tests use: wrong values, plain ways to find maps and layings, plans, webs, a check of refutations."""

import itertools
import time

from justthese.webs import Web
from justthese.worlds import World


class Strange:
    """A value of a class that no function of the package knows."""


# Clasps that are no closed strips, told as the ties of their webs and their ends.
DENSE = (
    "01 02 03 04 05 06 08 13 15 18 1a 1b 24 25 26 27 28 29 2a 2b 34 35 36 37 39 3a 45 46 47 48 4b 56 57 58 59 5a 5b "
    "67 68 69 6a 78 79 7a 7b 8a 8b 9a ab",
    0,
    7,
)
# These two make a box.
NINE = ("01 02 05 06 07 13 15 16 17 18 24 25 26 27 28 34 36 37 38 45 47 48 56 58 78", 0, 3)
NINTH = ("01 02 03 04 05 08 15 16 17 18 23 24 25 26 34 36 38 45 46 48 57 67 68 78", 0, 6)


def told_web(ties):
    """The web of ties that are told as pairs of signs, each the number of a place."""
    pairs = [(int(tie[0], 16), int(tie[1], 16)) for tie in ties.split()]
    return Web(1 + max(max(pair) for pair in pairs), pairs)


# No list of integers of any kind, and no object of the package.
WRONG = [None, True, False, "", "0", "01", 0, 3, -1, 10**29, 1.5, b"01", {}, {0: 1}, range(2), Strange(), World]


def raised(call, *args, **more):
    """The class and the fields of the error that a call raises, or None."""
    try:
        call(*args, **more)
    except ValueError as error:
        return (type(error).__name__, *vars(error).values())
    return None


def timed(call, *args):
    """The answer of a call and the seconds that it took."""
    begun = time.monotonic()
    answer = call(*args)
    return answer, time.monotonic() - begun


def plain_maps(world, other):
    """All maps, by going through all rows of places."""
    there = [set(rows) for rows in other.rows]
    return tuple(
        row
        for row in itertools.product(range(other.many), repeat=world.many)
        if all(tuple(row[x] for x in told) in there[k] for k, rows in enumerate(world.rows) for told in rows)
    )


def some_world(chance, lengths, many, most):
    """A world with up to so many rows in each relation, by a seeded random source."""
    rows = []
    for length in lengths:
        count = chance.randint(0, most)
        rows.append([[chance.randrange(many) for _ in range(length)] for _ in range(count)])
    return World(lengths, many, rows)


def some_pairs(seed, times, largest, most):
    """Pairs of small worlds with one signature."""
    import random

    chance = random.Random(seed)
    for _ in range(times):
        lengths = [chance.randint(1, 4) for _ in range(chance.randint(0, 3))]
        world = some_world(chance, lengths, chance.randint(1, 4), chance.choice([1, 3, 6]))
        yield world, some_world(chance, lengths, chance.randint(1, largest), chance.choice([4, 10, most]))


def all_graphs(many):
    """All worlds of so many places with one relation of length 2."""
    pairs = list(itertools.product(range(many), repeat=2))
    for size in range(len(pairs) + 1):
        for rows in itertools.combinations(pairs, size):
            yield World([2], many, [rows])


def clique(many):
    """The world in which each place is in a row with each other one."""
    return World([2], many, [list(itertools.permutations(range(many), 2))])


def ring(many):
    """The world of a ring of places, each in a row with the next one, both ways about."""
    rows = [(x, (x + 1) % many) for x in range(many)]
    return World([2], many, [rows + [(y, x) for x, y in rows]])


def spread_plan(world):
    """The spread of a world: places, a knot for each row, a peg for each place."""
    knots = [(k, row) for k, rows in enumerate(world.rows) for row in rows]
    ahead = [sum(world.lengths[:k]) for k in range(len(world.lengths))]
    rows = [[] for _ in range(sum(world.lengths) + 1)]
    for number, (k, row) in enumerate(knots):
        for index, place in enumerate(row):
            rows[ahead[k] + index].append((world.many + number, place))
    rows[-1] = [(world.many + len(knots) + place, place) for place in range(world.many)]
    return World([2] * len(rows), 2 * world.many + len(knots), rows)


def doubled_plan(world):
    """The doubled plan of a world of lengths 1 and 2: fronts and backs."""
    many = world.many
    rows = [[(x, many + x) for x in range(many)]]
    rows += [[(row[0], many + row[-1]) for row in told] for told in world.rows]
    return World([2] * len(rows), 2 * many, rows)


def refutes(world, other, refutation, left):
    """Whether a refutation is right, where `left` tells what is left ahead of it."""
    strikes, place, cases = refutation
    left = [set(values) for values in left]
    for at, value, relation, row, index in strikes:
        if row not in world.rows[relation] or row[index] != at or value not in left[at]:
            return False
        for told in other.rows[relation]:
            if told[index] == value and all(told[j] in left[row[j]] for j in range(len(row))):
                return False
        left[at].discard(value)
    if not left[place]:
        return cases == ()
    if len(left[place]) < 2 or [value for value, _ in cases] != sorted(left[place]):
        return False
    return all(
        refutes(world, other, case, left[:place] + [{value}] + left[place + 1 :]) for value, case in cases
    )


def strikes_of(refutation):
    """How many strikes a refutation has, those in its cases counted."""
    strikes, _, cases = refutation
    return len(strikes) + sum(strikes_of(case) for _, case in cases)


def plain_layings(web, other):
    """All layings, by going through all rows of places."""
    near = {pair for low, high in other.ties for pair in ((low, high), (high, low))}
    return tuple(
        row
        for row in itertools.product(range(other.many), repeat=web.many)
        if all((row[low], row[high]) in near for low, high in web.ties)
    )


def stepwise_layings(web, other):
    """All layings, place by place in the plain order; for webs whose first places are tied to one another."""
    near = {pair for low, high in other.ties for pair in ((low, high), (high, low))}
    behind = [[low for low, high in web.ties if high == place] for place in range(web.many)]
    rows = [()]
    for place in range(web.many):
        rows = [
            (*row, image)
            for row in rows
            for image in range(other.many)
            if all((row[low], image) in near for low in behind[place])
        ]
    return tuple(rows)


def all_webs(many):
    """All webs of so many places."""
    pairs = list(itertools.combinations(range(many), 2))
    for size in range(len(pairs) + 1):
        for ties in itertools.combinations(pairs, size):
            yield Web(many, ties)


def some_web(chance, many, share):
    """A web in which about this share of all pairs are ties, by a seeded random source."""
    return Web(many, [pair for pair in itertools.combinations(range(many), 2) if chance.random() < share])


def full_web(many):
    """The web with all ties."""
    return Web(many, list(itertools.combinations(range(many), 2)))


def path_web(many):
    """The web of a path."""
    return Web(many, [(x, x + 1) for x in range(many - 1)])


def ring_web(many):
    """The web of a ring."""
    return Web(many, [(x, (x + 1) % many) for x in range(many)])


def renamed_chain(many, step):
    """A chain of triangles, each with a tie in common with the next one; places are renamed by steps."""
    return Web(many, [(x * step % many, y * step % many) for x in range(many) for y in (x + 1, x + 2) if y < many])


def woven_web(many, arrows, clasps):
    """The web woven of a plan of so many places with these arrows (kind, from, to), by clasps."""
    ties = []
    places = many
    for kind, first, last in sorted(set(arrows)):
        clasp = clasps[kind]
        there = {clasp.first: first, clasp.last: last}
        for inner in clasp.inner:
            there[inner] = places
            places += 1
        ties += [(there[low], there[high]) for low, high in clasp.web.ties]
    return Web(places, ties)


def some_arrows(chance, many, kinds, count):
    """Arrows between so many places, each place on one at least."""
    told = {(chance.randrange(kinds), x, (x + 1) % many) for x in range(0, many, 2)}
    count = min(count, kinds * many * (many - 1))
    while len(told) < count:
        told.add((chance.randrange(kinds), *chance.sample(range(many), 2)))
    return sorted(told)


def shuffled(chance, many):
    """All of so many places in some order."""
    names = list(range(many))
    chance.shuffle(names)
    return names


def all_codes(letters):
    """All codes of so many letters."""
    return ["".join(told) for told in itertools.product("01", repeat=letters)]


def spaced(code):
    """Whether two letters 1 of a code are two or more letters apart, so that it does not touch."""
    return code.rfind("1") - code.find("1") >= 2


def with_rows(world, at, rows):
    """A world with other rows of a relation."""
    return World(world.lengths, world.many, [*world.rows[:at], rows, *world.rows[at + 1 :]])


def changed_plan(chance, plan):
    """A world of arrows with one thing otherwise."""
    arrows = [(k, row) for k, rows in enumerate(plan.rows) for row in rows]
    if not arrows:
        return plan
    kind, row = chance.choice(arrows)
    rows = [list(told) for told in plan.rows]
    some = (chance.randrange(plan.many), chance.randrange(plan.many))
    what = chance.randrange(8)
    if what in (0, 2, 3, 4):
        rows[kind].remove(row)
    if what == 1:
        rows[kind].append(some)
    elif what == 2:
        rows[kind].append(row[::-1])
    elif what == 3:
        rows[kind].append((row[0], some[1]))
    elif what == 4:
        rows[chance.randrange(len(rows))].append(row)
    elif what == 5:
        return World(plan.lengths, plan.many + 1, rows)
    elif what == 6:
        # All arrows of a place once more, from or to a new one.
        for told in rows:
            told += [tuple(plan.many if x == row[0] else x for x in pair) for pair in told if row[0] in pair]
        return World(plan.lengths, plan.many + 1, rows)
    elif what == 7:
        for told in rows:
            told[:] = [tuple(some[0] if x == some[1] else x for x in pair) for pair in told]
    return World(plan.lengths, plan.many, rows)
