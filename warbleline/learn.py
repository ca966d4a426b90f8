"""Learning the wire: probes, what is heard of them, and the paper that tells how fast to talk."""

from warbleline.errors import BadCount, BadNoise, BadTaps, NoRate
from warbleline.points import RATES
from warbleline.taps import right_shares
from warbleline.trellis import least_distance

STRONG = 1000
DATA = 16
BURST = 18
PROBE_BEATS = 5
TRAINING_BEATS = 20
MOST_BEATS = 1000


def probe():
    """Tell the tones of a probe."""
    return [STRONG] + [0] * (PROBE_BEATS - 1)


def shares_of(heard):
    """Tell the whole count of STRONG that is nearest to each number, of a half the greater one."""
    return [(number + STRONG // 2) // STRONG for number in heard]


def counts_of_probe(heard):
    """Tell the counts of what was heard of a probe."""
    if len(heard) != PROBE_BEATS:
        raise BadNoise()
    return shares_of(heard)


def taps_of(heard):
    """Tell what the wire leaves behind of tones, by a probe heard from the other end."""
    counts = counts_of_probe(heard)
    if counts[0] != 1:
        raise BadTaps()
    return right_shares(counts[1:])


def echo_of(heard):
    """Tell how an end hears its own voice, by a probe of its own."""
    counts = counts_of_probe(heard)
    if counts[-1] != 0:
        raise BadTaps()
    return right_shares(counts[:-1])


def training_tones():
    """Tell the tones of both ends in a training, pairs with the first end's first."""
    silence = [0] * PROBE_BEATS
    one = probe() + silence + silence + silence
    other = silence + silence + probe() + silence
    return list(zip(one, other))


def trained(wire, noises):
    """Tell forth, back, near, far as they are heard over a twin of the wire, and how loud the noise was."""
    if len(noises) != TRAINING_BEATS:
        raise BadNoise()
    line = wire.twin()
    line.hush()
    heard = [line.beat(one, other, noise=noise) for (one, other), noise in zip(training_tones(), noises)]
    at_one = [here for here, there in heard]
    at_other = [there for here, there in heard]
    forth = taps_of(at_other[0:5])
    back = taps_of(at_one[10:15])
    near = echo_of(at_one[0:5])
    far = echo_of(at_other[10:15])
    silent = at_one[5:10] + at_one[15:20] + at_other[5:10] + at_other[15:20]
    return (forth, back, near, far, max([abs(number) for number in silent]))


def paper(loud, *, beats=BURST):
    """Tell the greatest rate that so loud a noise allows in so many beats, its distance and the noise's energy."""
    if loud < 0 or beats < 1 or beats > MOST_BEATS:
        raise BadCount()
    energy = beats * loud ** 2
    for rate in reversed(RATES):
        distance = least_distance(rate=rate)
        if distance > 4 * energy:
            return (rate, distance, energy)
    raise NoRate(loud)


def paper_holds(found, loud, *, beats=BURST):
    """Tell whether these three numbers are the paper for this noise."""
    try:
        return found == paper(loud, beats=beats)
    except NoRate:
        return False
