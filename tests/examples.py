"""Runs examples as a document tells them: `>>> ` and code, then the value, or `raises` and the error.

The error is told with its fields, or by its class alone.
"""


def cut(text):
    """Pairs of code and the line told of it, which is None where there is none."""
    told = []
    for line in text.strip().split("\n"):
        if line.startswith(">>> "):
            told.append([line[4:], None])
        else:
            told[-1][1] = line
    return told


def run(case, text, names):
    """Runs the examples of a text; names is what earlier ones made, and gets what these make."""
    for code, line in cut(text):
        with case.subTest(code=code):
            if line is None:
                exec(code, names)
            elif line.startswith("raises "):
                due = eval(line[7:], names)
                told = due if isinstance(due, type) else type(due)
                with case.assertRaises(told) as caught:
                    eval(code, names)
                case.assertIs(type(caught.exception), told)
                if due is not told:
                    case.assertEqual(vars(caught.exception), vars(due))
            else:
                case.assertEqual(repr(eval(code, names)), repr(eval(line, names)))
