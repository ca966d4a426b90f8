"""The wire: what either end hears of both ends' tones, beat by beat."""

from warbleline.taps import left_behind, no_tones, right_shares, with_latest


class Wire:
    """A wire between one end and the other; its four shares are forth, back, near and far."""

    def __init__(self, *, forth=(), back=(), near=(), far=()):
        self.four = (right_shares(forth), right_shares(back), right_shares(near), right_shares(far))
        self.one_tones = no_tones()
        self.other_tones = no_tones()

    def __eq__(self, other):
        return (isinstance(other, Wire) and self.four == other.four
                and self.one_tones == other.one_tones and self.other_tones == other.other_tones)

    def __repr__(self):
        return f"Wire{self.four}"

    def shares(self):
        """Tell the four shares."""
        return self.four

    def beat(self, one, other, *, noise=(0, 0)):
        """Let both ends say a tone; tell what one and the other hear."""
        forth, back, near, far = self.four
        left_of_one = left_behind(forth, self.one_tones)
        left_of_other = left_behind(back, self.other_tones)
        # An end hears its own voice of this very beat, too, so these tones go first.
        self.one_tones = with_latest(one, self.one_tones)
        self.other_tones = with_latest(other, self.other_tones)
        at_one = other + left_of_other + left_behind(near, self.one_tones) + noise[0]
        at_other = one + left_of_one + left_behind(far, self.other_tones) + noise[1]
        return (at_one, at_other)

    def hush(self):
        """Make all earlier tones 0."""
        self.one_tones = no_tones()
        self.other_tones = no_tones()

    def twin(self):
        """Tell a wire that stands as this one and goes on by itself."""
        forth, back, near, far = self.four
        other = Wire(forth=forth, back=back, near=near, far=far)
        other.one_tones = list(self.one_tones)
        other.other_tones = list(self.other_tones)
        return other
