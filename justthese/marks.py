"""Marks of webs: webs that are the same but for the names of their places have one mark."""


def _finer(near, colours):
    """The keys of the places, by their colours and those beside them, and the colours that these tell."""
    keys = [(colour, tuple(sorted([colours[other] for other in beside]))) for colour, beside in zip(colours, near)]
    number = {key: k for k, key in enumerate(sorted(set(keys)))}
    return keys, [number[key] for key in keys]


def mark_of(web):
    """The mark of a web, and the colours of its places: ever finer ones, of which none depends on a name."""
    near = [web.beside(place) for place in range(web.many)]
    colours = [0] * web.many
    told = [web.many]
    many = 0
    while max(colours) + 1 > many:
        many = max(colours) + 1
        keys, colours = _finer(near, colours)
        told.append(tuple(sorted(keys)))
    return tuple(told), colours
