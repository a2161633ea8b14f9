"""How lines of texts tell heads and numbers, word by word."""

from justthese.errors import BadLine, BadText

MOST_SIGNS = 20000


def text_lines(text):
    """The lines of a text, each cut at its single blanks."""
    if not isinstance(text, str) or len(text) > MOST_SIGNS:
        raise BadText("text")
    return [line.split(" ") for line in text.split("\n")]


def told_number(word, least, most):
    """The integer from least to most that a word tells, or None."""
    # Python does not read integers of very many digits, so a long word is turned away unread.
    if len(word) > len(str(most)) or not word.isascii() or not word.isdigit():
        return None
    number = int(word)
    if str(number) != word or number < least or number > most:
        return None
    return number


def told_head(words, line, head, most):
    """The number of a line that has a head word and a number from 1 to most."""
    if words[0] != head:
        raise BadLine(line, 0)
    if len(words) == 1:
        raise BadLine(line, 1)
    number = told_number(words[1], 1, most)
    if number is None:
        raise BadLine(line, 1)
    if len(words) > 2:
        raise BadLine(line, 2)
    return number
