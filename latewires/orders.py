"""Which rows do the same, and which lie within others."""

from latewires.walks import form


def filled_ahead(steps, k):
    """Return the greatest number of the fills ahead of the first drop with a number above k, 0 if there is none."""
    return _most_ahead(steps, "fill", k)


def dropped_ahead(steps, l):
    """Return the greatest number of the drops ahead of the first fill with a number above l, 0 if there is none."""
    return _most_ahead(steps, "drop", l)


def alike(one, other):
    """Return whether the answers of both rows to each signal are the same."""
    return form(one) == form(other)


def within(one, other):
    """Return whether, for each signal, one's answer is on at no tick at which other's is off."""
    return lies_within(form(one), form(other))


def shifts(one, other):
    """Return the pair of the least and the greatest c for which one, c ticks later, lies within other, or None."""
    return _form_shifts(form(one), form(other))


def lies_within(first, second):
    """Return whether a row with the form first lies within a row with the form second."""
    least_most = _form_shifts(first, second)
    return least_most is not None and least_most[0] <= 0 <= least_most[1]


def telling_numbers(steps, others):
    """Return the list of the numbers at which it is seen whether steps lie on the low side of others."""
    return [0] + [stage[1] for stage in steps + others]


def _most_ahead(steps, word, bound):
    most = 0
    for kind, number in steps:
        if kind == word:
            most = max(most, number)
        elif number > bound:
            break
    return most


def _lie_low(steps, others):
    """Return whether steps lie on the low side of others."""
    for number in telling_numbers(steps, others):
        if filled_ahead(steps, number) > filled_ahead(others, number):
            return False
        if dropped_ahead(steps, number) < dropped_ahead(others, number):
            return False
    return True


def _form_shifts(first, second):
    """Return what shifts tells of rows of these forms."""
    if first[0] != second[0]:
        return None
    if first[0]:
        # With the turns left away other must lie within one, and be later by what one is sooner.
        least_most = _plain_shifts(second, first)
        return None if least_most is None else (-least_most[1], -least_most[0])
    return _plain_shifts(first, second)


def _plain_shifts(first, second):
    """Return what shifts tells of rows of these forms that are not turned."""
    if not _lie_low(first[3], second[3]):
        return None
    least, most = second[1] - first[1], second[2] - first[2]
    return (least, most) if least <= most else None
