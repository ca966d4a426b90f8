"""Seals: sixteen bits behind a row, by which it is seen whether the row came unhurt."""

from warbleline.bits import check_bits

SEAL = 16
TURNED = (3, 10, 15)


def moved_on(cells, bit):
    """Tell what the sixteen cells are behind one more bit of the row."""
    front = cells[0] ^ bit
    moved = cells[1:] + [0]
    if front == 1:
        for place in TURNED:
            moved[place] = 1 - moved[place]
    return moved


def seal_of(bits):
    """Tell the seal of a row of bits."""
    check_bits(bits)
    cells = [1] * SEAL
    for bit in bits:
        cells = moved_on(cells, bit)
    return cells


def sealed(bits):
    """Tell the row with its seal behind it."""
    return list(bits) + seal_of(bits)


def holds(bits):
    """Tell whether this is a row with its own seal behind it."""
    check_bits(bits)
    if len(bits) < SEAL:
        return False
    end = len(bits) - SEAL
    return seal_of(bits[:end]) == list(bits[end:])
