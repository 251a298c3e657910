"""What two recipes come to beside one another, told by their profiles alone.

A profile is told in sparecells.profiles: for `down`, then for `up`, the steps, the tuples of a bound and
the number that is told from it on, and last the full width. The first bound is what is held at first,
the last number is the least that any lot holds.
"""


def sunk_to(steps, others, bound):
    """What two come to side by side within a bound by their steps, None if they hold more at first."""
    one, other = steps[0][0], others[0][0]
    if one + other > bound:
        return None
    before = None
    while before != (one, other):
        before = (one, other)
        one = _told_at(steps, bound - other)
        other = _told_at(others, bound - one)
    return one, other


def _told_at(steps, bound):
    """The number that is told at a bound."""
    return min([number for least, number in steps if least <= bound])


def full_width_of_two(one, other):
    """The full width of two recipes beside one another, told by their profiles."""
    lows = (one[0][-1][1], other[0][-1][1])
    bound = max(one[2] + lows[1], other[2] + lows[0])
    while sunk_to(one[0], other[0], bound) != lows or sunk_to(one[1], other[1], bound) != lows:
        bound += 1
    return bound


def profile_of_two(one, other):
    """The profile of two recipes beside one another, told by their profiles."""
    most = full_width_of_two(one, other)
    return _steps_of_two(one[0], other[0], most), _steps_of_two(one[1], other[1], most), most


def _steps_of_two(steps, others, most):
    """The steps of both, up to the full width, where both have come to the least."""
    found = []
    for bound in range(steps[0][0] + others[0][0], most + 1):
        number = sum(sunk_to(steps, others, bound))
        if not found or number < found[-1][1]:
            found.append((bound, number))
    return found
