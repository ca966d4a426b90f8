"""Keys: a guard that lets them through and finds the sign to step out."""

from warbleline.bits import check_bytes
from warbleline.errors import BadCount

PAUSE = 3
MARK_KEY = 43
SIGN_MARKS = 3
LONGEST_PAUSE = 20


class Guard:
    """Lets keys through beat by beat, but holds those that may be the sign to step out."""

    def __init__(self, *, pause=PAUSE):
        if pause < 1 or pause > LONGEST_PAUSE:
            raise BadCount()
        self.pause = pause
        # At the beginning there was a pause.
        self.silent = pause
        self.marks = 0

    def beat(self, row):
        """Take what was keyed in a beat; tell what is let through, and whether the sign was found."""
        check_bytes(row)
        if len(row) == 0:
            return self.beat_of_silence()
        may_be_sign = self.marks > 0 or self.silent >= self.pause
        self.silent = 0
        both = [MARK_KEY] * self.marks + list(row)
        if may_be_sign and len(both) <= SIGN_MARKS and both.count(MARK_KEY) == len(both):
            self.marks = len(both)
            return ([], False)
        self.marks = 0
        return (both, False)

    def beat_of_silence(self):
        """Take a beat without a key; tell as beat does."""
        self.silent += 1
        if self.silent < self.pause:
            return ([], False)
        marks = self.marks
        self.marks = 0
        if marks == SIGN_MARKS:
            return ([], True)
        return ([MARK_KEY] * marks, False)

    def held(self):
        """Tell how many keys are held."""
        return self.marks

    def twin(self):
        """Tell a guard that stands as this one and goes on by itself."""
        other = Guard(pause=self.pause)
        other.silent = self.silent
        other.marks = self.marks
        return other
