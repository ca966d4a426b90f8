"""Mouths and ears: from payloads to the tones of a burst, and back from what was heard of it."""

from warbleline.errors import BadNoise, Full
from warbleline.frames import MARK, Reader, framed
from warbleline.learn import BURST, DATA
from warbleline.points import check_rate, folded, point
from warbleline.scramble import MEMORY_BITS, Descrambler, Scrambler
from warbleline.shape import Shaper
from warbleline.taps import left_behind, no_tones, right_shares, with_latest
from warbleline.trellis import coded, heard_path

MOST_QUEUE = 2000


def burst_bits(rate):
    """Tell how many bits a burst takes at a rate."""
    return DATA * rate


def check_burst(numbers):
    """Refuse what has not just a burst's numbers."""
    if len(numbers) != BURST:
        raise BadNoise()


class Mouth:
    """Takes payloads at one end, and says them burst by burst."""

    def __init__(self, shares=(), *, rate=1, seed=0):
        check_rate(rate)
        self.speed = rate
        self.shaper = Shaper(shares)
        self.scrambler = Scrambler(seed=seed)
        self.queue = []

    def tell(self, payload):
        """Put a payload's frame at the end of the queue."""
        frame = framed(payload)
        if len(self.queue) >= MOST_QUEUE:
            raise Full(MOST_QUEUE)
        self.queue.extend(frame)

    def burst(self):
        """Tell the tones of the next burst."""
        many = burst_bits(self.speed)
        while len(self.queue) < many:
            self.queue.extend(MARK)
        bits = self.scrambler.push(self.queue[:many])
        self.queue = self.queue[many:]
        tones = []
        for number in coded(bits, rate=self.speed):
            tones.append(self.shaper.say(point(number, rate=self.speed)))
        return tones

    def waiting(self):
        """Tell how many bits are in the queue."""
        return len(self.queue)

    def turn_to(self, rate):
        """Say what comes from now on at this rate."""
        check_rate(rate)
        self.speed = rate

    def twin(self):
        """Tell a mouth that stands as this one and goes on by itself."""
        other = Mouth(rate=self.speed)
        other.shaper = self.shaper.twin()
        other.scrambler = self.scrambler.twin()
        other.queue = list(self.queue)
        return other


class Ear:
    """Hears the bursts of the other end's mouth, and finds the payloads in them."""

    def __init__(self, echo=(), *, rate=1, seed=0):
        check_rate(rate)
        self.speed = rate
        self.taps = right_shares(echo)
        self.descrambler = Descrambler(seed=seed)
        self.reader = Reader()
        self.tones = no_tones()
        # So many bits of the next burst come out wrong, as the descrambler missed what was ahead of them.
        self.unsure = 0

    def hear(self, heard, own):
        """Take what was heard in a burst and what the own end said in it; tell the payloads that came."""
        check_burst(heard)
        check_burst(own)
        values = []
        for number, tone in zip(heard, own):
            self.tones = with_latest(tone, self.tones)
            values.append(folded(number - left_behind(self.taps, self.tones)))
        bits, cost = heard_path(values, rate=self.speed)
        clear = self.descrambler.push(bits)[self.unsure:]
        self.unsure = 0
        return self.reader.take(clear)

    def deaf(self, own):
        """Miss a burst in which the own end said these tones."""
        check_burst(own)
        for tone in own:
            self.tones = with_latest(tone, self.tones)
        self.reader.forget()
        self.unsure = MEMORY_BITS

    def hurt(self):
        """Tell how many hurt frames there were."""
        return self.reader.hurt()

    def turn_to(self, rate):
        """Hear what comes from now on at this rate."""
        check_rate(rate)
        self.speed = rate

    def twin(self):
        """Tell an ear that stands as this one and goes on by itself."""
        other = Ear(self.taps, rate=self.speed)
        other.descrambler = self.descrambler.twin()
        other.reader = self.reader.twin()
        other.tones = list(self.tones)
        other.unsure = self.unsure
        return other
