"""Rows of all places, joined from rows of the places of each cluster."""


def with_part(row, places, part):
    """A row with other values at some places."""
    changed = list(row)
    for place, value in zip(places, part):
        changed[place] = value
    return changed


def joined_rows(many, parts):
    """All rows of so many places; each of the parts is the places of a cluster and the rows that these may get."""
    base = [0] * many
    open_parts = []
    for places, told in parts:
        if len(told) > 1:
            open_parts.append((places, told))
        else:
            base = with_part(base, places, told[0])
    rows = [base]
    for places, told in open_parts:
        rows = [with_part(row, places, part) for row in rows for part in told]
    return rows
