"""Scramblers, and descramblers that undo what they did."""

from warbleline.bits import bits_number, check_bits, number_bits

MEMORY_BITS = 7
FOURTH = 3
SEVENTH = 6


def pushed_through(cells, bits, keeps_out):
    """Tell what comes out of a memory for these bits, and the memory behind them."""
    check_bits(bits)
    out = []
    for bit in bits:
        told = bit ^ cells[FOURTH] ^ cells[SEVENTH]
        out.append(told)
        # This choice is all by which a scrambler and a descrambler are unlike.
        kept = told if keeps_out else bit
        cells = [kept] + cells[:-1]
    return (out, cells)


class Scrambler:
    """Scrambles bits; its memory is of what came out."""

    def __init__(self, *, seed=0):
        self.cells = number_bits(seed, MEMORY_BITS)

    def push(self, bits):
        """Push bits; tell as many that came out."""
        out, cells = pushed_through(self.cells, bits, True)
        self.cells = cells
        return out

    def memory(self):
        """Tell the memory as a number."""
        return bits_number(self.cells)

    def twin(self):
        """Tell a scrambler that stands as this one and goes on by itself."""
        return Scrambler(seed=self.memory())


class Descrambler:
    """Undoes a scrambler; its memory is of what was pushed."""

    def __init__(self, *, seed=0):
        self.cells = number_bits(seed, MEMORY_BITS)

    def push(self, bits):
        """Push bits; tell as many that came out."""
        out, cells = pushed_through(self.cells, bits, False)
        self.cells = cells
        return out

    def memory(self):
        """Tell the memory as a number."""
        return bits_number(self.cells)

    def twin(self):
        """Tell a descrambler that stands as this one and goes on by itself."""
        return Descrambler(seed=self.memory())
