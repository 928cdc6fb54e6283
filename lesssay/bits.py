"""Whole numbers from 0 on, many at once: as the bits of one whole number, each at the place of its number."""


def bits_of(numbers):
    """The bits at the places of these numbers."""
    bits = 0
    for number in numbers:
        bits |= 1 << number
    return bits


def numbers_of(bits):
    """The numbers of these bits, from the least on."""
    numbers = []
    while bits:
        least = bits & -bits
        numbers.append(least.bit_length() - 1)
        bits -= least
    return numbers


def has(bits, number):
    """Whether the number is among these bits."""
    return (bits >> number) & 1 == 1


def within(bits, others):
    """Whether all of these bits are among the others."""
    return (bits & ~others) == 0
