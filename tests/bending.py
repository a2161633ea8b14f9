"""Papers bent: the same but for one thing, somewhere in them."""

from justthese.papers import Denial, Paper
from justthese.webs import Web
from justthese.worlds import World
from tests.helpers import Strange


def _bent_integer(value):
    yield from (value + 1, value - 1, float(value), str(value), (value,), None)
    if value in (0, 1):
        yield bool(value)


def _bent_tuple(value):
    for at, item in enumerate(value):
        for other in bent(item):
            yield (*value[:at], other, *value[at + 1 :])
        yield (*value[:at], *value[at + 1 :])
        yield (*value[:at], item, *value[at:])
        if at > 0 and value[at - 1] != item:
            yield (*value[: at - 1], item, value[at - 1], *value[at + 1 :])
    yield (*value, 0)
    yield from (None, 0, {}, set(), "", Strange())
    if value:
        yield ()


def _bent_world(world):
    yield from (None, world.many, (world.lengths, world.many, world.rows), Strange())
    yield World(world.lengths, world.many + 1, world.rows)
    yield World((*world.lengths, 2), world.many, (*world.rows, ()))
    for at, rows in enumerate(world.rows):
        for k in range(len(rows)):
            fewer = (*rows[:k], *rows[k + 1 :])
            yield World(world.lengths, world.many, (*world.rows[:at], fewer, *world.rows[at + 1 :]))


def bent(value):
    """Values of which each is the same as a value but for one thing; True for 1 is another thing here."""
    if isinstance(value, tuple):
        yield from _bent_tuple(value)
    elif isinstance(value, World):
        yield from _bent_world(value)
    elif isinstance(value, str):
        yield from (value + "0", value[1:], tuple(value), value.encode(), None, value[::-1] + "1")
    else:
        yield from _bent_integer(value)


def as_lists(value):
    """A value with lists in the place of tuples, all the way in."""
    return [as_lists(item) for item in value] if isinstance(value, tuple) else value


def bent_papers(paper):
    """Papers of the class of a paper with bent parts, and values that are no papers of this class."""
    kind = type(paper)
    for at, part in enumerate(paper.parts):
        for other in bent(part):
            yield kind(*paper.parts[:at], other, *paper.parts[at + 1 :])
    base = Paper if paper else Denial
    yield base(paper.word, *paper.parts)
    yield type("Below", (kind,), {})(*paper.parts)
    yield from (kind, paper.parts, paper.word, None, True, False, 0, 1, (), Strange(), Web(1, []), World([], 1, []))
    yield (Denial if paper else Paper)(paper.word, *paper.parts)


def is_just(case, shows, paper):
    """Asks that a check function takes a paper, told with tuples and with lists, and nothing that is bent."""
    told = type(paper)(*paper.parts)
    case.assertIs(shows(told), True, (paper.word, paper.parts))
    case.assertIs(shows(type(paper)(*[as_lists(part) for part in paper.parts])), True, (paper.word, paper.parts))
    for value in bent_papers(paper):
        if not _is_equal(value, paper):
            case.assertIs(shows(value), False, (paper.word, paper.parts, vars(value) if hasattr(value, "word") else value))


def _is_equal(value, paper):
    """Whether a bent paper came out the same, as True for 1 does not."""
    return type(value) is type(paper) and _same(value.parts, paper.parts)


def _same(one, other):
    if isinstance(one, tuple) and isinstance(other, tuple):
        return len(one) == len(other) and all(_same(*pair) for pair in zip(one, other))
    return type(one) is type(other) and one == other
