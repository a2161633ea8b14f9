"""The layings of a web into itself as a table of deeds, and tables renamed into one another."""

from justthese.asking import ask_number
from justthese.errors import TooMany
from justthese.layings import layings
from justthese.maps import then
from justthese.tables import Table, ask_table
from justthese.webs import ask_web

MOST_DEEDS = 24
MOST_RENAMED = 8
MOST_RENAMINGS = 1000


def composed(rows):
    """For each two of some rows the number of the one then the other, which is one of them, too."""
    number = {row: k for k, row in enumerate(rows)}
    return [[number[then(one, other)] for other in rows] for one in rows]


def deeds_of(web):
    """All layings of a web into itself, ascending, and their table."""
    ask_web(web, "web")
    told = layings(web, web, MOST_DEEDS)
    return told, Table(composed(told))


def _fits(table, other, names):
    """Whether the last one of the names of the first deeds fits the names ahead of it."""
    last = len(names) - 1
    for deed in range(len(names)):
        for one, two in ((deed, last), (last, deed)):
            outcome = table.rows[one][two]
            if outcome <= last and names[outcome] != other.rows[names[one]][names[two]]:
                return False
    return True


def _all_fit(table, other, names):
    """Whether names lead each deed then another one to the name of the one, then that of the other."""
    deeds = range(len(table))
    return all([names[table.rows[one][two]] == other.rows[names[one]][names[two]] for one in deeds for two in deeds])


def renamings(table, other, most=200):
    """All renamings of a table into another one, at most so many."""
    ask_table(table, "table")
    ask_table(other, "other")
    ask_number(most, "most", 1, MOST_RENAMINGS)
    if max(len(table), len(other)) > MOST_RENAMED:
        raise TooMany("deeds", MOST_RENAMED)
    if len(table) != len(other):
        return ()
    rows = [()]
    for _ in range(len(table)):
        longer = [names + (deed,) for names in rows for deed in range(len(other)) if deed not in names]
        rows = [names for names in longer if _fits(table, other, names)]
    found = [names for names in rows if _all_fit(table, other, names)]
    if len(found) > most:
        raise TooMany("renamings", most)
    return tuple(found)
