"""Texts that are near a text."""


def spoilt(text):
    """Yield texts that are near text; some of them may be fit to be read, too."""
    signs = " -;+.,_x0123\nutes"
    for place in range(len(text) + 1):
        for sign in signs:
            yield text[:place] + sign + text[place:]
            yield text[:place] + sign + text[place + 1:]
        yield text[:place] + text[place + 1:]
        yield text[:place]
        yield text[place:]
        yield text[:place] + text[place:place + 2][::-1] + text[place + 2:]
