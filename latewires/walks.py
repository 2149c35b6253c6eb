"""The walk of a row: its heights, its stages and its form."""

from latewires.rows import TURN


def heights(row):
    """Return the tuple of the heights of row's walk behind each part."""
    told = []
    height = 0
    for rise in _rises(row):
        height += rise
        told.append(height)
    return tuple(told)


def stages(row):
    """Return the tuple of the stages that row's walk makes."""
    made = []
    top = depth = 0
    for height in heights(row):
        if height > top:
            top = height
            _make_stage(made, "drop", height)
        elif height < depth:
            depth = height
            _make_stage(made, "fill", -height)
    return tuple(made)


def form(row):
    """Return the form of row: (is_turned, late_on, late_off, stages)."""
    rises = _rises(row)
    delays = sum([part[1] for part in row if part[0] == "delay"])
    late_on = delays + sum([rise for rise in rises if rise > 0])
    late_off = delays - sum([rise for rise in rises if rise < 0])
    is_turned = row.count(TURN) % 2 == 1
    return (is_turned, late_on, late_off, stages(row))


def _rises(row):
    """Return the list of how far the walk goes up by each part, below 0 where it goes down."""
    rises = []
    up = "on"
    for part in row:
        if part == TURN:
            up = "off" if up == "on" else "on"
            rises.append(0)
        elif part[0] == "delay":
            rises.append(0)
        else:
            rises.append(part[1] if part[0] == up else -part[1])
    return rises


def _make_stage(made, word, number):
    """Put a stage behind those made, or in the place of the last one if that has its word."""
    if made and made[-1][0] == word:
        made[-1] = (word, number)
    else:
        made.append((word, number))
