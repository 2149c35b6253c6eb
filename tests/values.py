"""Values of all kinds, and values that are near a value."""

from latewires.errors import BadForm, BadText, NoRow, TooMany

VALUES = [
    None, True, False, 0, 1, -1, 7, 10 ** 400 - 1, "", "on", "turn", "none", "drop 4", "a\nb", "x" * 20000,
    (), [], {}, ((),), [()], ([],), ((), ()), {"a": ()}, {(): []}, (None,), (None, None), (0, 0), (True, True),
    (None, None, None), (None, (), None), (0, (), 0), (0, (), 0, 0), (True, 0, 0, ()), (None, 0, 0, ()),
    ("on", 3), ("turn",), (("on", 3),), (("turn",),), [("on", 3)], (["on", 3],), ((("on", 3),),), ([("on", 3)],),
    ((("on", 3),), (("on", 3),)), {0: ("on", 3)}, (1,) * 4000, [[1]] * 1000, ((),) * 3999, "on 3",
    BadText(), NoRow(), TooMany(12), BadForm("form"), (BadText(),), (BadForm(("stage", 0)), 4),
]


def nested(depth):
    """Return a tuple that is nested so deep."""
    value = ()
    for _ in range(depth):
        value = (value,)
    return value


VALUES.append(nested(19))


def near_item(item):
    """Yield values that could stand in the place of an item by mistake."""
    if isinstance(item, bool):
        yield from (not item, int(item), None, str(item))
    elif isinstance(item, int):
        yield from (item + 1, item - 1, -item - 1, item == 1, str(item), None, (item,), [item])
        if item in (0, 1):
            yield bool(item)
    elif isinstance(item, str):
        yield from (item + " ", item.upper(), "", None, (item,), "on", "off", "delay", "turn", "drop", "fill")
    elif item is None:
        yield from (0, False, "", ())


def near(value):
    """Yield values that are near a nested tuple: one thing in it is another one, is gone, or is there twice."""
    yield from near_item(value)
    if not isinstance(value, tuple):
        return
    yield list(value)
    yield {place: item for place, item in enumerate(value)}
    yield (value,)
    yield value + (None,)
    for place, item in enumerate(value):
        yield value[:place] + value[place + 1:]
        yield value[:place] + (item,) + value[place:]
        if place:
            yield value[:place - 1] + (item, value[place - 1]) + value[place + 1:]
        for other in near(item):
            yield value[:place] + (other,) + value[place + 1:]
