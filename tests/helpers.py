"""What several tests share."""

from math import isqrt
from random import Random

from warbleline.book import Book
from warbleline.errors import LineError
from warbleline.link import Link
from warbleline.voice import Ear, Mouth

HUGE = 99999999999999999999
# Its 45 bytes are all unlike, so a new book learns 44 words of it and is just full.
FILLING = list(range(100, 145))


class Checks:
    """Checks beside those of a TestCase, which it is mixed into."""

    def refused(self, kind, call, *handed, **values):
        """The call is refused with just this class and these values, and leaves what is handed in as it was."""
        before = [list(thing) if isinstance(thing, list) else thing for thing in handed]
        with self.assertRaises(kind) as caught:
            call(*handed)
        self.assertIs(type(caught.exception), kind)
        for name, value in values.items():
            self.assertEqual(getattr(caught.exception, name), value)
        self.assertEqual(list(handed), before)

    def tells(self, call, handed, expected):
        """The call tells a new list each time, of whole numbers, and leaves what is handed in as it was."""
        before = list(handed)
        first = call(handed)
        self.assertIs(type(first), list)
        self.assertEqual(first, expected)
        self.assertEqual({type(thing) for thing in first} - {int}, set())
        first.append(77)
        first[0] = 78
        self.assertEqual(handed, before)
        self.assertEqual(call(handed), expected)


def some_rows(seed, lengths):
    """Rows of bits, one of each length, the same ones in each run."""
    chance = Random(seed)
    return [[chance.randrange(2) for place in range(length)] for length in lengths]


def book_of_rows(*rows):
    """A book that shortened these rows."""
    book = Book()
    for row in rows:
        book.shorten(row)
    return book


def full_book():
    """A book that is just full."""
    return book_of_rows(FILLING)


def quiet_noise(chance, rate):
    """A burst's noise for either end, pairs, whose squares add up to less than a quarter of the least distance."""
    ends = []
    for end in range(2):
        rest = ({1: 36864, 2: 9216, 3: 2304, 4: 576}[rate] - 1) // 4
        noises = [0] * 18
        for beat in chance.sample(range(18), 18):
            most = isqrt(rest)
            noises[beat] = chance.randint(-most, most) if chance.random() < 0.3 else 0
            rest -= noises[beat] ** 2
        ends.append(noises)
    return list(zip(*ends))


def link_stands(link):
    """All that can be learnt of a link by what it tells, without a change to it."""
    stands = [link.waiting(), link.unanswered(), link.awaited(), link.idle()]
    # What it would tell next, and what it would tell of pieces that may be kept, or rows that may be begun.
    twin = link.twin()
    stands.append([twin.frame() for turn in range(6)])
    for number in range(8):
        for row in ([0], [1] + [0] * 8, [0] * 4, [0] * 9, [0, 0, 0, 0, 0, 0, 0, 1], [1, 1] + [0] * 8):
            for last in (0, 1):
                stands.append(outcome_of_take(link.twin(), number, last, row))
    return stands


def outcome_of_take(link, number, last, row):
    """What a link tells of a piece, and how it stands behind it."""
    try:
        rows = link.take([int(sign) for sign in f"{number:03b}{link.awaited():03b}1{last}"] + row)
    except LineError as refusal:
        return vars(refusal)
    return (rows, link.awaited(), link.unanswered(), link.frame(), link.frame())


class PairByWords:
    """Both ends of a pair, made of their parts as the document has it, without guards and tape."""

    def __init__(self, wire, rate=4):
        forth, back, near, far = wire.shares()
        self.wire, self.speed = wire.twin(), rate
        self.wire.hush()
        self.links = [Link(), Link()]
        self.mouths = [Mouth(forth, rate=rate), Mouth(back, rate=rate)]
        self.ears = [Ear(near, rate=rate), Ear(far, rate=rate)]
        self.refused = 0

    def turn_to(self, rate):
        self.speed = rate
        for thing in self.mouths + self.ears:
            thing.turn_to(rate)

    def turn(self, noise=(), deaf=()):
        said = []
        for link, mouth in zip(self.links, self.mouths):
            while mouth.waiting() < 16 * self.speed:
                payload = link.frame()
                if payload is None:
                    break
                mouth.tell(payload)
            said.append(mouth.burst())
        beats = noise or [(0, 0)] * 18
        heard = [self.wire.beat(one, other, noise=both) for one, other, both in zip(*said, beats, strict=True)]
        return tuple(self.rows_at(end, [both[end] for both in heard], said[end], deaf) for end in (0, 1))

    def rows_at(self, end, heard, own, deaf):
        rows = []
        if ("one", "other")[end] in deaf:
            self.ears[end].deaf(own)
            return rows
        for payload in self.ears[end].hear(heard, own):
            try:
                rows += self.links[end].take(payload)
            except LineError:
                self.refused += 1
        return rows

    def pieces(self):
        """How many wait or are open at either end."""
        return sum(link.waiting() + len(link.unanswered()) for link in self.links)


def pair_stands(pair):
    """All that can be learnt of a pair by what it tells, without a change to it."""
    told = [(pair.told(end), pair.untold(end), pair.hurt(end)) for end in ("one", "other")]
    return [told, pair.rate(), pair.quiet(), pair.tape(), len(pair), repr(pair), *deeds_tried(pair)]


def deeds_tried(pair):
    """What twins of a pair tell of some deeds."""
    outcomes = []
    for deeds in (["turn"] * 9 + ["hang"], ["key +", "key ", "key ", "key +", "key ", "key ", "key ", "turn", "hang"],
                  ["key x", "back", "key +++", "key ", "key ", "key ", "key y", "hang"]):
        twin = pair.twin()
        for deed in deeds:
            for end in ("one", "other"):
                outcomes.append(outcome_of_deed(twin, end, deed))
    return outcomes


def outcome_of_deed(pair, end, deed):
    """What a pair tells of a deed, or how it refuses it."""
    try:
        if deed.startswith("key "):
            return pair.key(end, [ord(sign) for sign in deed[4:]])
        if deed == "back":
            return pair.back(end)
        return pair.turn() if deed == "turn" else pair.hang()
    except LineError as refusal:
        return vars(refusal)
