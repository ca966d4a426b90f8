"""The trellis: rows of bits coded to points, and the row that was most likely sent by what was heard."""

from warbleline.bits import bits_number, check_bits, number_bits
from warbleline.errors import BadCount
from warbleline.points import RING, apart, check_rate, point, step

TAIL = 2
# The coder's two bits are told as one number here: 2 older + newer.
STATES = 4


def moved(state, first):
    """Tell the coder's state behind a beat with this first bit."""
    return 2 * (state % 2) + first


def class_of(state, first):
    """Tell 2 t + newer: which of the points a beat may tell, whatever its other bits are."""
    # The first bit turns older, the bit of worth 2 in the state, to t.
    return state ^ (2 * first)


def coded(bits, *, rate=1):
    """Tell the numbers of the points to which a row is coded, those of the tail too."""
    check_rate(rate)
    check_bits(bits)
    if len(bits) % rate != 0:
        raise BadCount()
    row = list(bits) + [0] * (TAIL * rate)
    numbers = []
    state = 0
    for at in range(0, len(row), rate):
        first = row[at]
        numbers.append(4 * bits_number(row[at + 1:at + rate]) + class_of(state, first))
        state = moved(state, first)
    return numbers


def nearest_of_class(number, low, rate):
    """Tell the least square to a point of number 4 m + low, and the least m of those with it."""
    between = 4 * step(rate)
    beyond = (number - point(low, rate=rate)) % RING
    # The points of a class part the ring evenly, so the nearest is the last one up to the number or the next one.
    last = beyond // between
    past = beyond % between
    following = (last + 1) % (RING // between)
    return min([(past ** 2, last), ((between - past) ** 2, following)])


def onward(state, first, classes, costs):
    """Tell the least cost from a state to the end by this first bit, the bit, and the m of the beat."""
    square, rest = classes[class_of(state, first)]
    return (square + costs[moved(state, first)], first, rest)


def best_of_beat(number, costs, rate):
    """Tell the best way on from each state at a beat, by the costs from each state behind it."""
    classes = [nearest_of_class(number, low, rate) for low in range(STATES)]
    # Ways on are ordered by their cost, then as their bits are: so of several best ones the least row's is taken.
    return [min([onward(state, first, classes, costs) for first in (0, 1)]) for state in range(STATES)]


def tail_costs(heard, rate):
    """Tell the cost of the tail from each state, by what was heard in it."""
    costs = [0] * STATES
    for number in reversed(heard):
        squares = [apart(number, point(class_of(state, 0), rate=rate)) ** 2 for state in range(STATES)]
        costs = [squares[state] + costs[moved(state, 0)] for state in range(STATES)]
    return costs


def bits_along(beats, rate):
    """Tell the bits of the best ways on, from the coder's first state."""
    bits = []
    state = 0
    for beat in beats:
        cost, first, rest = beat[state]
        bits.append(first)
        bits.extend(number_bits(rest, rate - 1))
        state = moved(state, first)
    return bits


def heard_path(heard, *, rate=1):
    """Tell the row of least cost to what was heard, of several the least one, and that cost."""
    check_rate(rate)
    if len(heard) < TAIL:
        raise BadCount()
    end = len(heard) - TAIL
    costs = tail_costs(heard[end:], rate)
    # From the end on, so that at each beat the cost of all that a bit leads to is known before it is chosen.
    beats = []
    for number in reversed(heard[:end]):
        beat = best_of_beat(number, costs, rate)
        costs = [cost for cost, first, rest in beat]
        beats.append(beat)
    beats.reverse()
    bits = bits_along(beats, rate)
    return (bits, costs[0])


def nearest(*, rate=1):
    """Tell two unlike rows of one length that cost one another no more than any other two do."""
    check_rate(rate)
    # Rows that are unlike in m alone are 4 steps apart, or more, at a beat: 16 squares of a step. Others have a
    # beat at which they part, 2 steps or more apart, then one at which newer is unlike, so 1 step or more, and one
    # at which they meet, only older being unlike, so 2 steps or more: 9 squares of a step, and these have just that.
    return ([0] * rate, [1] + [0] * (rate - 1))


def least_distance(*, rate=1):
    """Tell the least cost of two unlike rows of one length to one another."""
    one, other = nearest(rate=rate)
    here = [point(number, rate=rate) for number in coded(one, rate=rate)]
    there = [point(number, rate=rate) for number in coded(other, rate=rate)]
    return sum([apart(place, opposite) ** 2 for place, opposite in zip(here, there)])
