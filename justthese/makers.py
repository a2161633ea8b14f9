"""What deeds make, how they spell it, and makers of a table."""

from justthese.asking import has_each_once
from justthese.checks import is_row
from justthese.errors import BadMakers
from justthese.tables import ask_table


def ask_makers(table, makers):
    """Raises unless a value is a list of unlike deeds of a table, or of unlike ways of a house."""
    if not is_row(makers, None, len(table)) or not has_each_once(makers):
        raise BadMakers("makers")


def spelled(table, makers):
    """For each deed that makers make the shortest, and among these the least, tuple of them whose outcome it is."""
    words = {table.still: ()}
    ascending = sorted(makers)
    waiting = [table.still]
    while waiting:
        ahead = []
        # These have words of one length, and these words ascend; so do those that come of them.
        for deed in waiting:
            for maker in ascending:
                longer = table.rows[deed][maker]
                if longer not in words:
                    words[longer] = words[deed] + (maker,)
                    ahead.append(longer)
        waiting = ahead
    return words


def made(table, makers):
    """The deeds that makers make, ascending."""
    ask_table(table, "table")
    ask_makers(table, makers)
    return tuple(sorted(spelled(table, makers)))


def spellings(table, makers):
    """For each deed the shortest, and among these the least, tuple of makers whose outcome it is, or None."""
    ask_table(table, "table")
    ask_makers(table, makers)
    words = spelled(table, makers)
    return tuple([words.get(deed) for deed in range(len(table))])


def some_makers(table):
    """The made ones of a table: each deed that those taken ahead of it do not make."""
    ask_table(table, "table")
    taken = []
    there = spelled(table, taken)
    for deed in range(len(table)):
        if deed not in there:
            taken.append(deed)
            there = spelled(table, taken)
    return tuple(taken)
