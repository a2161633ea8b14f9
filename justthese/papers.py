"""Papers: answers together with what shows them; a denial is a paper that says no."""


def fixed(value):
    """Any value with tuples in the place of lists, all the way in."""
    if not isinstance(value, (list, tuple)):
        return value
    # No function calls itself here: papers may be nested deeper than calls should be.
    begun = [(value, [])]
    while True:
        source, done = begun[-1]
        if len(done) == len(source):
            begun.pop()
            if not begun:
                return tuple(done)
            begun[-1][1].append(tuple(done))
        elif isinstance(source[len(done)], (list, tuple)):
            begun.append((source[len(done)], []))
        else:
            done.append(source[len(done)])


def _is_same(one, other):
    """Whether two values are papers of one class with equal words and parts."""
    return type(one) is type(other) and (one.word, one.parts) == (other.word, other.parts)


class Paper:
    """A paper, with its word and its parts; it is true."""

    def __init__(self, word, *parts):
        self.word = fixed(word)
        self.parts = fixed(parts)

    def __eq__(self, other):
        return _is_same(self, other)

    def __bool__(self):
        return True


class Denial(Paper):
    """A paper that says no; it is false."""

    def __init__(self, word, *parts):
        self.word = fixed(word)
        self.parts = fixed(parts)

    def __eq__(self, other):
        return _is_same(self, other)

    def __bool__(self):
        return False
