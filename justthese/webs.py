"""Webs: places and ties."""

from justthese.asking import ask_names, ask_number
from justthese.checks import is_row, is_within
from justthese.errors import BadWeb, TooMany
from justthese.worlds import MOST_PLACES, World

MOST_WEB_PLACES = 4000
MOST_TIES = 12000


def _are_ties(value, many):
    """Whether any value is a list of pairs of unlike places."""
    if not isinstance(value, (list, tuple)):
        return False
    for tie in value:
        if not is_row(tie, 2, many) or tie[0] == tie[1]:
            return False
    return True


def _near_places(many, ties):
    """For each place a dict of the places beside it, which ascend as the ties do."""
    near = [{} for _ in range(many)]
    for low, high in ties:
        near[low][high] = True
        near[high][low] = True
    return near


class Web:
    """Places, numbered from 0, and ties: pairs of unlike places, the low one first."""

    def __init__(self, many, ties):
        ask_number(many, "many", 1, MOST_WEB_PLACES)
        if not _are_ties(ties, many):
            raise BadWeb("ties")
        once = sorted({(min(one, other), max(one, other)) for one, other in ties})
        if len(once) > MOST_TIES:
            raise TooMany("ties", MOST_TIES)
        self.many = many
        self.ties = tuple(once)
        self._near = _near_places(many, once)

    def __eq__(self, other):
        return type(self) is type(other) and (self.many, self.ties) == (other.many, other.ties)

    def __len__(self):
        return len(range(self.many))

    def beside(self, place):
        """The places beside a place."""
        ask_number(place, "place", 0, self.many - 1)
        return tuple(self._near[place])

    def is_tied(self, one, other):
        """Whether any two values are two places that are tied."""
        if not is_within(one, 0, self.many - 1) or not is_within(other, 0, self.many - 1):
            return False
        return other in self._near[one]


def ask_web(value, part):
    """Raises unless a value is a web."""
    if not isinstance(value, Web):
        raise BadWeb(part)


def web_world(web):
    """A web as a world: one relation, with each tie both ways."""
    ask_web(web, "web")
    if web.many > MOST_PLACES:
        raise TooMany("places", MOST_PLACES)
    return World((2,), web.many, [web.ties + tuple([(high, low) for low, high in web.ties])])


def renamed_web(web, names):
    """The web in which place x is called names[x]."""
    ask_web(web, "web")
    ask_names(names, web.many)
    return Web(web.many, [(names[low], names[high]) for low, high in web.ties])
