"""The walk of a row: its heights, its stages and its form."""

from latewires.rows import TURN


def heights(row):
    """Return the tuple of the heights of row's walk behind each part."""
    told = []
    height = 0
    for rise in _rises(row):
        height += rise
        told.append(height)
    return tuple(told)


def stages(row):
    """Return the tuple of the stages that row's walk makes."""
    return _stages_past(row, 0, 0)


def form(row):
    """Return the form of row: (is_turned, late_on, late_off, stages)."""
    return form_past(row, 0, 0)


def form_past(row, top, depth):
    """Return the form of row but for its stages: only heights above top, and depths beyond depth, make some."""
    rises = _rises(row)
    delays = sum([part[1] for part in row if part[0] == "delay"])
    late_on = delays + sum([rise for rise in rises if rise > 0])
    late_off = delays - sum([rise for rise in rises if rise < 0])
    is_turned = row.count(TURN) % 2 == 1
    return (is_turned, late_on, late_off, _stages_past(row, top, depth))


def _rises(row):
    """Return the list of how far the walk goes up by each part, below 0 where it goes down."""
    rises = []
    up = "on"
    for part in row:
        if part == TURN:
            up = "off" if up == "on" else "on"
            rises.append(0)
        elif part[0] == "delay":
            rises.append(0)
        else:
            rises.append(part[1] if part[0] == up else -part[1])
    return rises


def _stages_past(row, top, depth):
    """Return the tuple of the stages of row's walk that heights above top, and depths beyond depth, make."""
    made = []
    highest, lowest = top, -depth
    for height in heights(row):
        if height > highest:
            highest = height
            _make_stage(made, "drop", height)
        elif height < lowest:
            lowest = height
            _make_stage(made, "fill", -height)
    return tuple(made)


def _make_stage(made, word, number):
    """Put a stage behind those made, or in the place of the last one if that has its word."""
    if made and made[-1][0] == word:
        made[-1] = (word, number)
    else:
        made.append((word, number))
