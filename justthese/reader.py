"""The lines of a desk, read word by word."""

from justthese.checks import is_code
from justthese.errors import BadLine, BadText
from justthese.ways import is_way
from justthese.wording import told_number

MOST_LINE_SIGNS = 2000
MOST_NAME_LETTERS = 8
MOST_COUNT = 9999
LETTERS = "abcdefghijklmnopqrstuvwxyz"
# What a word of a line is.
NAME = "name"
NEW = "new"
COUNT = "count"
CODE = "code"
WAY = "way"
# For each first word what the words behind it are.
FORMS = {
    "world": ("new", "count"),
    "relation": ("name", "count"),
    "row": ("name", "count"),
    "table": ("new",),
    "sum": ("name", "name", "new"),
    "product": ("name", "name", "new"),
    "power": ("name", "name", "new"),
    "drop": ("name",),
    "undo": (),
    "show": ("name",),
    "maps": ("name", "name"),
    "why": ("name", "name"),
    "web": ("name", "way"),
    "layings": ("name", "name", "way"),
    "same": ("name", "name"),
    "core": ("name",),
    "picture": ("name", "way"),
    "code": ("code",),
    "into": ("code", "code"),
    "strip": ("code",),
}
# Where further counts follow, of which one at least is told: the most of them.
MOST_FURTHER = {"row": 8, "table": 144}


def words_of(line):
    """The words of a line: what stands between its blanks."""
    if not isinstance(line, str) or len(line) > MOST_LINE_SIGNS:
        raise BadText("line")
    return tuple(line.split(" "))


def _is_name(word):
    """Whether a word is a name."""
    if len(word) < 1 or len(word) > MOST_NAME_LETTERS:
        return False
    return all([letter in LETTERS for letter in word])


def _read_word(form, word):
    """What a word tells that has to be of a form, or None."""
    if form == COUNT:
        return told_number(word, 0, MOST_COUNT)
    if form == CODE:
        return word if is_code(word) and len(word) > 0 else None
    if form == WAY:
        return word if is_way(word) else None
    return word if _is_name(word) else None


def _read_words(forms, words, at):
    """What words tell from one of them on, each by its form."""
    told = []
    for form in forms:
        value = _read_word(form, words[at]) if at < len(words) else None
        if value is None:
            raise BadLine(0, at)
        told.append(value)
        at += 1
    return told


def read_line(line):
    """What a line of a desk tells: its first word, and what the words behind it tell."""
    words = words_of(line)
    first = words[0]
    if first not in FORMS:
        raise BadLine(0, 0)
    told = [first] + _read_words(FORMS[first], words, 1)
    many = len(told)
    if first in MOST_FURTHER:
        # One is asked for, even where no word is left; those above the most are one word too many.
        further = min(max(len(words) - many, 1), MOST_FURTHER[first])
        told.append(tuple(_read_words((COUNT,) * further, words, many)))
        many += further
    if len(words) > many:
        raise BadLine(0, many)
    return tuple(told)


def words_by(told, form):
    """The words behind the first one of a line, as read, that are of a form."""
    return [value for value, there in zip(told[1:], FORMS[told[0]]) if there == form]
