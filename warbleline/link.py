"""Links: rows cut to pieces that are numbered, sent until they are answered, and put together again."""

from warbleline.bits import bits_number, check_bits, number_bits
from warbleline.book import Book
from warbleline.errors import BadFrame, Full

PIECE = 40
WINDOW = 4
MOST_PIECES = 40
NUMBERS = 8
NUMBER_BITS = 3
HEAD_BITS = 8


def head_of(number, answer, comes, last):
    """Tell the bits of a payload that stand ahead of its piece."""
    return number_bits(number, NUMBER_BITS) + number_bits(answer, NUMBER_BITS) + [comes, last]


def has_form(number, comes, last, piece):
    """Tell whether these make a payload, with a piece or without one."""
    if comes == 1:
        return 1 <= len(piece) <= PIECE
    return number == 0 and last == 0 and len(piece) == 0


def parted(payload):
    """Tell the number, the answer, both bits and the piece of a payload."""
    check_bits(payload)
    if len(payload) < HEAD_BITS:
        raise BadFrame(0)
    number = bits_number(payload[:NUMBER_BITS])
    answer = bits_number(payload[NUMBER_BITS:2 * NUMBER_BITS])
    comes, last = payload[2 * NUMBER_BITS:HEAD_BITS]
    piece = payload[HEAD_BITS:]
    if not has_form(number, comes, last, piece):
        raise BadFrame(0)
    return (number, answer, comes, last, piece)


class Intake:
    """What comes in at one end: pieces that wait for those ahead of them, and the row that they make."""

    def __init__(self):
        self.book = Book()
        self.place = 0
        self.kept = {}
        self.begun = []

    def take_piece(self, number, last, piece):
        """Take a piece; tell the rows that are whole by it."""
        ahead = (number - self.place) % NUMBERS
        if ahead < WINDOW and self.place + ahead not in self.kept:
            self.kept[self.place + ahead] = (last, piece)
        rows = []
        while self.place in self.kept:
            ends, bits = self.kept.pop(self.place)
            self.place += 1
            self.begun.extend(bits)
            if ends == 1:
                rows.append(self.book.unpack(self.begun))
                self.begun = []
        return rows

    def twin(self):
        """Tell an intake that stands as this one and goes on by itself."""
        other = Intake()
        other.book = self.book.twin()
        other.place = self.place
        other.kept = dict(self.kept)
        other.begun = list(self.begun)
        return other


class Link:
    """One end's half of the talk."""

    def __init__(self):
        self.book = Book()
        self.intake = Intake()
        self.cut = 0
        # Pieces are told as their place, 1 or 0 for the last one of a row, and their bits.
        self.queue = []
        # The open ones stand as they were sent, the one sent longest ago first.
        self.sent = []
        self.owes = False

    def hand(self, row):
        """Take a row to be told at the other end."""
        # The book of a row that is refused must not learn from it, so another one is asked first.
        book = self.book.twin()
        bits = book.pack(row)
        if len(self.queue) >= MOST_PIECES:
            raise Full(MOST_PIECES)
        self.book = book
        for at in range(0, len(bits), PIECE):
            last = 1 if at + PIECE >= len(bits) else 0
            self.queue.append((self.cut, last, bits[at:at + PIECE]))
            self.cut += 1

    def frame(self):
        """Tell the next payload to send, None where there is nothing to tell."""
        if len(self.queue) > 0 and len(self.sent) < WINDOW:
            self.sent.append(self.queue.pop(0))
        elif len(self.sent) > 0:
            self.sent.append(self.sent.pop(0))
        elif self.owes:
            self.owes = False
            return head_of(0, self.awaited(), 0, 0)
        else:
            return None
        self.owes = False
        place, last, bits = self.sent[-1]
        return head_of(place % NUMBERS, self.awaited(), 1, last) + bits

    def take(self, payload):
        """Take a payload of the other end; tell the rows that are whole by it."""
        number, answer, comes, last, piece = parted(payload)
        rows = []
        if comes == 1:
            # A row may be refused behind good ones, so all is done on a twin first.
            intake = self.intake.twin()
            rows = intake.take_piece(number, last, piece)
            self.intake = intake
            self.owes = True
        self.end_answered(answer)
        return rows

    def end_answered(self, answer):
        """Let go the open pieces ahead of an answer, if it can be one to them."""
        places = self.open_places()
        if len(places) == 0:
            return
        on = (answer - places[0]) % NUMBERS
        if on <= len(places):
            self.sent = [piece for piece in self.sent if piece[0] >= places[0] + on]

    def open_places(self):
        """Tell the places of the open pieces, the eldest first."""
        return sorted([place for place, last, bits in self.sent])

    def waiting(self):
        """Tell how many pieces wait."""
        return len(self.queue)

    def unanswered(self):
        """Tell the numbers of the open pieces, the eldest first."""
        return [place % NUMBERS for place in self.open_places()]

    def awaited(self):
        """Tell the number of the piece that is awaited next."""
        return self.intake.place % NUMBERS

    def idle(self):
        """Tell whether nothing waits or is open."""
        return len(self.queue) == 0 and len(self.sent) == 0

    def twin(self):
        """Tell a link that stands as this one and goes on by itself."""
        other = Link()
        other.book = self.book.twin()
        other.intake = self.intake.twin()
        other.cut = self.cut
        other.queue = list(self.queue)
        other.sent = list(self.sent)
        other.owes = self.owes
        return other
