"""Bits and bytes, and numbers written in bits, the one of greatest worth first."""

from warbleline.errors import BadBit, BadByte, BadCount

BYTE_BITS = 8
GREATEST_BYTE = 255
MOST_BITS = 64


def check_bits(bits):
    """Refuse a list with anything but bits in it."""
    for at, bit in enumerate(bits):
        if bit not in (0, 1):
            raise BadBit(at)


def check_bytes(row):
    """Refuse a list with anything but bytes in it."""
    for at, byte in enumerate(row):
        if byte < 0 or byte > GREATEST_BYTE:
            raise BadByte(at)


def bits_of(row):
    """Tell the bits of a row of bytes."""
    check_bytes(row)
    bits = []
    for byte in row:
        bits.extend(number_bits(byte, BYTE_BITS))
    return bits


def bytes_of(bits):
    """Tell the bytes that a row of bits writes."""
    check_bits(bits)
    if len(bits) % BYTE_BITS != 0:
        raise BadCount()
    return [bits_number(bits[at:at + BYTE_BITS]) for at in range(0, len(bits), BYTE_BITS)]


def number_bits(number, many):
    """Write a number in so many bits."""
    # The bounds of many go first, since nothing is shifted by a count below nought or without end.
    if many < 0 or many > MOST_BITS or number < 0 or number >> many != 0:
        raise BadCount()
    return [(number >> place) & 1 for place in range(many - 1, -1, -1)]


def bits_number(bits):
    """Tell the number that a row of bits writes."""
    check_bits(bits)
    if len(bits) > MOST_BITS:
        raise BadCount()
    number = 0
    for bit in bits:
        number = 2 * number + bit
    return number
