"""One end of a pair: its guard, link, mouth and ear, and the rows that it was handed and that it told."""

from warbleline.errors import LineError
from warbleline.keys import Guard
from warbleline.link import Link
from warbleline.voice import Ear, Mouth, burst_bits


class End:
    """An end that says by these shares, and hears its own voice by this echo."""

    def __init__(self, shares=(), echo=(), *, rate=1, pause=1):
        self.guard = Guard(pause=pause)
        self.link = Link()
        self.mouth = Mouth(shares, rate=rate)
        self.ear = Ear(echo, rate=rate)
        self.away = False
        self.given = []
        self.came = []

    def take_row(self, row):
        """Take a row for the other end."""
        self.link.hand(row)
        self.given.append(list(row))

    def take_keys(self, row):
        """Take what was keyed in a beat; tell whether the sign to step out was found."""
        # The guard stays as it was where the link refuses what it lets through, so a twin is asked first.
        guard = self.guard.twin()
        through, found = guard.beat(row)
        if len(through) > 0:
            self.take_row(through)
        self.guard = guard
        if found:
            self.away = True
        return found

    def say_burst(self, rate):
        """Tell the tones of a burst, with the payloads that the link has for it."""
        while self.mouth.waiting() < burst_bits(rate):
            payload = self.link.frame()
            if payload is None:
                break
            self.mouth.tell(payload)
        return self.mouth.burst()

    def hear_burst(self, heard, own):
        """Hear a burst, in which this end said its own tones; tell the rows that are whole by it."""
        rows = []
        for payload in self.ear.hear(heard, own):
            rows.extend(self.rows_of(payload))
        self.came.extend([list(row) for row in rows])
        return rows

    def rows_of(self, payload):
        """Tell the rows that are whole by a payload; one that the link refuses is let go."""
        try:
            return self.link.take(payload)
        except LineError:
            return []

    def turn_to(self, rate):
        """Talk at this rate from now on."""
        self.mouth.turn_to(rate)
        self.ear.turn_to(rate)

    def twin(self):
        """Tell an end that stands as this one and goes on by itself."""
        other = End()
        other.guard = self.guard.twin()
        other.link = self.link.twin()
        other.mouth = self.mouth.twin()
        other.ear = self.ear.twin()
        other.away = self.away
        # The rows within are never changed, only told as copies, so both may have the same ones.
        other.given = list(self.given)
        other.came = list(self.came)
        return other
