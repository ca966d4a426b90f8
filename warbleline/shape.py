"""Shapers: tones said so that what the wire leaves behind of them undoes itself."""

from warbleline.errors import BadCount
from warbleline.points import folded
from warbleline.taps import left_behind, no_tones, right_shares, with_latest


class Shaper:
    """Shapes values of the ring to tones, for a wire of these shares."""

    def __init__(self, shares=()):
        self.taps = right_shares(shares)
        self.tones = no_tones()

    def say(self, value):
        """Tell the tone to say for a value."""
        if folded(value) != value:
            raise BadCount()
        tone = folded(value - left_behind(self.taps, self.tones))
        self.tones = with_latest(tone, self.tones)
        return tone

    def past(self):
        """Tell the last four tones, the latest first."""
        return list(self.tones)

    def twin(self):
        """Tell a shaper that stands as this one and goes on by itself."""
        other = Shaper(self.taps)
        other.tones = list(self.tones)
        return other
