"""What several test files use to make images."""

from restitch.codes import encode

TOP = 2 ** 32 - 1


def bytes_of(words):
    """The bytes of words, lowest byte first, as a tuple."""
    return tuple(byte for word in words for byte in word.to_bytes(4, "little"))


def words_of(instructions):
    """Words of instructions; an integer among them stands for itself."""
    return [item if isinstance(item, int) else encode(item) for item in instructions]


def code_segment(address, instructions):
    return (address, bytes_of(words_of(instructions)), False, True)


def image_of(instructions, *others, address=0, entry=None):
    """An image with one executable segment and others, in the order of their addresses."""
    segments = sorted([code_segment(address, instructions), *others])
    return (tuple(segments), address if entry is None else entry, ())


def data_segment(address, values):
    return (address, tuple(values), True, False)


def constant_segment(address, values):
    return (address, tuple(values), False, False)


def load_constant(number, word):
    """Two instructions that put a word into a register."""
    low = word & 16383
    if low >= 8192:
        low -= 16384
    high = ((word - low) & TOP) >> 14
    return [("lui", number, high), ("addi", number, number, low)]


ZERO = ("words", (0,))


def row(*words):
    """The fact of a row of words."""
    return ("words", words)


def span(low, high):
    return ("range", low, high)


def facts_of(**known):
    """16 facts: facts_of(r3=row(1, 2)) tells of register 3, and of register 0 that it is 0."""
    return (ZERO, *[known.get(f"r{number}") for number in range(1, 16)])


ZEROS = (ZERO,) * 16
