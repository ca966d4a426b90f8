"""What several tests share."""

from math import isqrt
from random import Random

from warbleline.book import Book

HUGE = 99999999999999999999
# Its 45 bytes are all unlike, so a new book learns 44 words of it and is just full.
FILLING = list(range(100, 145))


class Checks:
    """Checks beside those of a TestCase, which it is mixed into."""

    def refused(self, kind, call, *handed, **values):
        """The call is refused with just this class and these values, and leaves what is handed in as it was."""
        before = [list(thing) if isinstance(thing, list) else thing for thing in handed]
        with self.assertRaises(kind) as caught:
            call(*handed)
        self.assertIs(type(caught.exception), kind)
        for name, value in values.items():
            self.assertEqual(getattr(caught.exception, name), value)
        self.assertEqual(list(handed), before)

    def tells(self, call, handed, expected):
        """The call tells a new list each time, of whole numbers, and leaves what is handed in as it was."""
        before = list(handed)
        first = call(handed)
        self.assertIs(type(first), list)
        self.assertEqual(first, expected)
        self.assertEqual({type(thing) for thing in first} - {int}, set())
        first.append(77)
        first[0] = 78
        self.assertEqual(handed, before)
        self.assertEqual(call(handed), expected)


def some_rows(seed, lengths):
    """Rows of bits, one of each length, the same ones in each run."""
    chance = Random(seed)
    return [[chance.randrange(2) for place in range(length)] for length in lengths]


def book_of_rows(*rows):
    """A book that shortened these rows."""
    book = Book()
    for row in rows:
        book.shorten(row)
    return book


def full_book():
    """A book that is just full."""
    return book_of_rows(FILLING)


def quiet_noise(chance, rate):
    """A burst's noise for either end, pairs, whose squares add up to less than a quarter of the least distance."""
    ends = []
    for end in range(2):
        rest = ({1: 36864, 2: 9216, 3: 2304, 4: 576}[rate] - 1) // 4
        noises = [0] * 18
        for beat in chance.sample(range(18), 18):
            most = isqrt(rest)
            noises[beat] = chance.randint(-most, most) if chance.random() < 0.3 else 0
            rest -= noises[beat] ** 2
        ends.append(noises)
    return list(zip(*ends))
