"""Webs as texts: a line for the places, and one for each tie."""

from justthese.errors import BadLine
from justthese.webs import MOST_WEB_PLACES, Web, ask_web
from justthese.wording import text_lines, told_head, told_number


def web_text(web):
    """The text of a web."""
    ask_web(web, "web")
    return "\n".join([f"places {web.many}"] + [f"{low} {high}" for low, high in web.ties])


def _told_tie(words, line, many):
    """The tie that a line tells, of two unlike places below many."""
    tie = []
    for word in words:
        place = told_number(word, 0, many - 1)
        if place is None or len(tie) == 2 or place in tie:
            raise BadLine(line, len(tie))
        tie.append(place)
    if len(tie) < 2:
        raise BadLine(line, len(tie))
    return tie


def read_web(text):
    """The web that a text tells."""
    lines = text_lines(text)
    many = told_head(lines[0], 0, "places", MOST_WEB_PLACES)
    ties = [_told_tie(words, line, many) for line, words in enumerate(lines) if line > 0]
    return Web(many, ties)
