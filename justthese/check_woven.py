"""Whether a paper of a woven web is right."""

from justthese.sameness import is_due
from justthese.unwoven import judged_woven


def shows_woven(web, box, value):
    """Whether any value is the right paper of a web and a box."""
    return is_due(judged_woven(web, box), value)
