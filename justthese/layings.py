"""Layings of a web into a web: whether, which, and whether there is one that is not still."""

from justthese.asking import ask_number, has_each_once
from justthese.checks import is_row
from justthese.errors import TooMany
from justthese.joining import joined_rows, with_part
from justthese.laid import laid_parts
from justthese.webs import ask_web

MOST_LAYINGS = 1000
MOST_STIFF = 20


def _ask_webs(web, other):
    """Raises unless both values are webs."""
    ask_web(web, "web")
    ask_web(other, "other")


def is_laying(web, other, value):
    """Whether any value is a laying of a web into another one."""
    _ask_webs(web, other)
    if not is_row(value, web.many, other.many):
        return False
    return all([other.is_tied(value[low], value[high]) for low, high in web.ties])


def layings(web, other, most=200):
    """All layings of a web into another one, at most so many."""
    _ask_webs(web, other)
    ask_number(most, "most", 1, MOST_LAYINGS)
    # They are sorted in the end, so they may be found in any order.
    parts = laid_parts(web, other, most, True)
    total = 1
    for _, rows in parts:
        total = total * len(rows)
    if total == 0:
        return ()
    if total > most:
        raise TooMany("layings", most)
    return tuple(sorted([tuple(row) for row in joined_rows(web.many, parts)]))


def some_laying(web, other):
    """A laying of a web into another one, or None."""
    _ask_webs(web, other)
    parts = laid_parts(web, other, 0)
    if len(parts[-1][1]) == 0:
        return None
    return tuple(joined_rows(web.many, parts)[0])


def is_turn(web, value):
    """Whether any value is a laying of a web into itself that is one to one."""
    return is_laying(web, web, value) and has_each_once(value)


def moving_laying(web):
    """A laying of a web into itself that is not still, or None."""
    # Each cluster can be left where it is, so one that can be laid in two ways is enough.
    for order, rows in laid_parts(web, web, 1):
        for row in rows:
            if list(row) != order:
                return tuple(with_part(list(range(web.many)), order, row))
    return None


def is_stiff(web):
    """Whether a web has no laying into itself but the still one."""
    ask_web(web, "web")
    if web.many > MOST_STIFF:
        raise TooMany("places", MOST_STIFF)
    return moving_laying(web) is None
