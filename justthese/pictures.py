"""Pictures of webs, strips and tables, as strings."""

from justthese.asking import ask_code
from justthese.errors import TooMany
from justthese.strips import colours_of
from justthese.tables import ask_table
from justthese.webs import ask_web

MOST_PICTURED = 200
COLOURS = (0, 1, 2)
HERE = "o"
TIE = "#"
NOTHING = "."


def web_picture(web):
    """For each place a string: whether it is tied to each place ahead of it, then a sign for itself."""
    ask_web(web, "web")
    if web.many > MOST_PICTURED:
        raise TooMany("places", MOST_PICTURED)
    lines = []
    for place in range(web.many):
        signs = [TIE if web.is_tied(place, ahead) else NOTHING for ahead in range(place)]
        lines.append("".join(signs) + HERE)
    return tuple(lines)


def strip_picture(code):
    """For each colour a string: which places of the strip of a code have it."""
    ask_code(code)
    told = colours_of(code)
    return tuple(["".join([HERE if there == colour else NOTHING for there in told]) for colour in COLOURS])


def table_picture(table):
    """For each deed of a table its row, the numbers one below another."""
    ask_table(table, "table")
    width = max([len(str(deed)) for row in table.rows for deed in row])
    return tuple([" ".join([str(deed).rjust(width) for deed in row]) for row in table.rows])
