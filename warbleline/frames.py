"""Frames: sealed payloads between marks, and the reader that finds them in a stream of bits."""

from warbleline.bits import check_bits
from warbleline.errors import BadCount, BadFrame, TooLong
from warbleline.seal import SEAL, holds, sealed

LONGEST = 256
MOST_OPEN = 400
MARK = (0, 1, 1, 1, 1, 1, 1, 0)
MOST_ONES = 5


def stuffed(bits):
    """Tell the row with a 0 put behind each five 1 in a row."""
    check_bits(bits)
    row = []
    ones = 0
    for bit in bits:
        row.append(bit)
        ones = ones + 1 if bit == 1 else 0
        if ones == MOST_ONES:
            row.append(0)
            ones = 0
    return row


def unstuffed(bits):
    """Tell the row of which these bits are what is stuffed."""
    check_bits(bits)
    row = []
    ones = 0
    for at, bit in enumerate(bits):
        if ones < MOST_ONES:
            row.append(bit)
            ones = ones + 1 if bit == 1 else 0
        elif bit == 0:
            ones = 0
        else:
            raise BadFrame(at)
    if ones == MOST_ONES:
        raise BadFrame(len(bits))
    return row


def framed(payload):
    """Tell the frame of a payload."""
    check_bits(payload)
    if len(payload) == 0:
        raise BadCount()
    if len(payload) > LONGEST:
        raise TooLong(LONGEST)
    return list(MARK) + stuffed(sealed(payload)) + list(MARK)


def payload_between(bits):
    """Tell the payload of a right frame by what lies between its marks, None where it is not right."""
    try:
        row = unstuffed(bits)
    except BadFrame:
        return None
    if not holds(row):
        return None
    payload = row[:len(row) - SEAL]
    if len(payload) == 0 or len(payload) > LONGEST:
        return None
    return payload


class Reader:
    """Takes a stream of bits in parts, and tells the payloads of the right frames in it."""

    def __init__(self):
        self.last = []
        self.behind = None
        self.spoilt = 0

    def take(self, bits):
        """Take a part of the stream; tell the payloads of the frames that end in it."""
        # All of the part is looked at first, so that a refused part leaves the reader as it was.
        check_bits(bits)
        payloads = []
        for bit in bits:
            payload = self.take_bit(bit)
            if payload is not None:
                payloads.append(payload)
        return payloads

    def take_bit(self, bit):
        """Take one bit; tell the payload of the right frame that it ends, else None."""
        self.last = self.last[1 - len(MARK):] + [bit]
        if self.behind is not None:
            self.behind.append(bit)
        if tuple(self.last) == MARK:
            return self.pass_mark()
        if self.behind is not None and len(self.behind) > MOST_OPEN:
            self.spoilt += 1
            self.behind = None
        return None

    def pass_mark(self):
        """Begin anew behind a mark; tell the payload of the right frame that it ends, else None."""
        # Marks that share a 0 have seven bits from end to end, so there the slice is empty, too.
        between = [] if self.behind is None else self.behind[:-len(MARK)]
        self.behind = []
        if len(between) == 0:
            return None
        payload = payload_between(between)
        if payload is None:
            self.spoilt += 1
        return payload

    def forget(self):
        """Wait for a mark that lies wholly in what comes from now on."""
        self.last = []
        self.behind = None

    def hurt(self):
        """Tell how many hurt frames there were."""
        return self.spoilt

    def waiting(self):
        """Tell how many bits came behind the last mark, None where a mark is awaited."""
        return None if self.behind is None else len(self.behind)

    def twin(self):
        """Tell a reader that stands as this one and goes on by itself."""
        other = Reader()
        other.last = list(self.last)
        other.behind = None if self.behind is None else list(self.behind)
        other.spoilt = self.spoilt
        return other
