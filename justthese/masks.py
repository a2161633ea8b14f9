"""Lots of places, each kept as one integer, a mask: place x is in the lot if bit x is 1."""


def bits_of(mask):
    """The places in a lot, ascending."""
    found = []
    while mask:
        low = mask & -mask
        found.append(low.bit_length() - 1)
        mask = mask ^ low
    return found


def web_masks(web):
    """For each place of a web the lot of the places beside it."""
    masks = [0] * web.many
    for low, high in web.ties:
        masks[low] = masks[low] | (1 << high)
        masks[high] = masks[high] | (1 << low)
    return masks
