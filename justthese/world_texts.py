"""Worlds as texts: a line for the places, for each relation, and for each row."""

from justthese.asking import ask_world
from justthese.errors import BadLine, BadText
from justthese.worlds import MOST_LENGTH, MOST_PLACES, MOST_RELATIONS, World

MOST_SIGNS = 20000


def world_text(world):
    """The text of a world."""
    ask_world(world, "world")
    lines = [f"places {world.many}"]
    for length, rows in zip(world.lengths, world.rows):
        lines.append(f"relation {length}")
        for row in rows:
            lines.append(" ".join([str(place) for place in row]))
    return "\n".join(lines)


def _told_number(word, least, most):
    """The integer from least to most that a word tells, or None."""
    # Python does not read integers of very many digits, so a long word is turned away unread.
    if len(word) > len(str(most)) or not word.isascii() or not word.isdigit():
        return None
    number = int(word)
    if str(number) != word or number < least or number > most:
        return None
    return number


def _told_head(words, line, head, most):
    """The number of a line that has a head word and a number from 1 to most."""
    if words[0] != head:
        raise BadLine(line, 0)
    if len(words) == 1:
        raise BadLine(line, 1)
    number = _told_number(words[1], 1, most)
    if number is None:
        raise BadLine(line, 1)
    if len(words) > 2:
        raise BadLine(line, 2)
    return number


def _told_row(words, line, length, many):
    """The row that a line tells, of so many places below many."""
    row = []
    for word in words:
        place = _told_number(word, 0, many - 1)
        if place is None or len(row) == length:
            raise BadLine(line, len(row))
        row.append(place)
    if len(row) < length:
        raise BadLine(line, len(row))
    return row


def read_world(text):
    """The world that a text tells."""
    if not isinstance(text, str) or len(text) > MOST_SIGNS:
        raise BadText("text")
    lines = [line.split(" ") for line in text.split("\n")]
    many = _told_head(lines[0], 0, "places", MOST_PLACES)
    lengths = []
    rows = []
    for line, words in enumerate(lines):
        if line > 0 and words[0] == "relation":
            if len(lengths) == MOST_RELATIONS:
                raise BadLine(line, 0)
            lengths.append(_told_head(words, line, "relation", MOST_LENGTH))
            rows.append([])
        elif line > 0:
            if len(lengths) == 0:
                raise BadLine(line, 0)
            rows[-1].append(_told_row(words, line, lengths[-1], many))
    return World(lengths, many, rows)
