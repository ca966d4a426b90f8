"""Shares: how many times each of a row of tones is left on the wire."""

from warbleline.errors import BadTaps

MOST_SHARES = 4
GREATEST_SHARE = 3


def without_last_noughts(numbers):
    """Tell the tuple of these numbers without the noughts at its end."""
    end = len(numbers)
    while end > 0 and numbers[end - 1] == 0:
        end -= 1
    return tuple(numbers[:end])


def right_shares(numbers):
    """Tell the shares that these numbers are, without noughts at their end; refuse what is none."""
    shares = without_last_noughts(numbers)
    if len(shares) > MOST_SHARES:
        raise BadTaps()
    for share in shares:
        if abs(share) > GREATEST_SHARE:
            raise BadTaps()
    return shares


def left_behind(shares, tones):
    """Tell what is left by these shares of tones, of which the latest one stands first."""
    return sum([share * tone for share, tone in zip(shares, tones)])


def no_tones():
    """Tell the last tones of one that has not said any."""
    return [0] * MOST_SHARES


def with_latest(tone, tones):
    """Tell the last tones behind one more."""
    return [tone] + tones[:MOST_SHARES - 1]
