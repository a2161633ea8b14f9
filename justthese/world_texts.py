"""Worlds as texts: a line for the places, for each relation, and for each row."""

from justthese.asking import ask_world
from justthese.errors import BadLine
from justthese.wording import text_lines, told_head, told_number
from justthese.worlds import MOST_LENGTH, MOST_PLACES, MOST_RELATIONS, World


def world_text(world):
    """The text of a world."""
    ask_world(world, "world")
    lines = [f"places {world.many}"]
    for length, rows in zip(world.lengths, world.rows):
        lines.append(f"relation {length}")
        for row in rows:
            lines.append(" ".join([str(place) for place in row]))
    return "\n".join(lines)


def _told_row(words, line, length, many):
    """The row that a line tells, of so many places below many."""
    row = []
    for word in words:
        place = told_number(word, 0, many - 1)
        if place is None or len(row) == length:
            raise BadLine(line, len(row))
        row.append(place)
    if len(row) < length:
        raise BadLine(line, len(row))
    return row


def read_world(text):
    """The world that a text tells."""
    lines = text_lines(text)
    many = told_head(lines[0], 0, "places", MOST_PLACES)
    lengths = []
    rows = []
    for line, words in enumerate(lines):
        if line > 0 and words[0] == "relation":
            if len(lengths) == MOST_RELATIONS:
                raise BadLine(line, 0)
            lengths.append(told_head(words, line, "relation", MOST_LENGTH))
            rows.append([])
        elif line > 0:
            if len(lengths) == 0:
                raise BadLine(line, 0)
            rows[-1].append(_told_row(words, line, lengths[-1], many))
    return World(lengths, many, rows)
