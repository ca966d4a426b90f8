"""The ring of numbers, and the points that stand on it at each rate."""

from warbleline.errors import BadCount, BadRate

RING = 256
RATES = (1, 2, 3, 4)
# So many points stand at the least rate, and at each next one twice as many.
FEWEST_POINTS = 4


def check_rate(rate):
    """Refuse a rate that there isn't."""
    if rate not in RATES:
        raise BadRate()


def folded(number):
    """Tell the number of the ring that is unlike this one by whole rings."""
    half = RING // 2
    return (number + half) % RING - half


def apart(one, other):
    """Tell how far two numbers are from one another on the ring."""
    return abs(folded(one - other))


def points_at(rate):
    """Tell how many points there are at a rate."""
    check_rate(rate)
    return FEWEST_POINTS << (rate - 1)


def step(rate):
    """Tell how far each point is from the next one."""
    return RING // points_at(rate)


def point(number, *, rate=1):
    """Tell where the point of this number stands."""
    # How many points there are is asked first, as a bad rate goes ahead of a bad number.
    many = points_at(rate)
    if number < 0 or number >= many:
        raise BadCount()
    wide = step(rate)
    return wide // 2 - RING // 2 + number * wide
