"""Runs examples as the document shows them.

An example is a line ">>> CODE"; the line below it, if it is no example, is
what CODE's value shows as, or "raises ERROR" for the error that it raises.
"""

import latewires.errors


def pieces(text):
    """Return the list of pairs of each example's code and the line below it, "" if there is none."""
    found = []
    for line in text.strip().split("\n"):
        line = line.strip()
        if line.startswith(">>> "):
            found.append([line[4:], ""])
        else:
            found[-1][1] = line
    return [tuple(pair) for pair in found]


def told(error):
    """Return what an error is, as something that can be compared."""
    return type(error), vars(error)


def run(case, text, names=None):
    """Run the examples of text by a unittest case; return the names that they set."""
    names = {} if names is None else names
    for code, shown in pieces(text):
        with case.subTest(code=code):
            if shown.startswith("raises "):
                expected = eval(shown[len("raises "):], dict(vars(latewires.errors)))
                with case.assertRaises(type(expected)) as caught:
                    eval(code, names)
                case.assertEqual(told(caught.exception), told(expected))
            elif shown:
                case.assertEqual(repr(eval(code, names)), shown)
            else:
                exec(code, names)
    return names
