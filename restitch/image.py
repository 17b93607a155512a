"""Images as bytes."""

from restitch.errors import ImageError
from restitch.kinds import NAME_CHARACTERS, WORDS_IN_ALL, is_name
from restitch.memory import MOST_BYTES, MOST_SEGMENTS
from restitch.words import bytes_of_words, word_of_bytes

FIRST_WORD = 1381257300
LONGEST_NAME = 30
GREATEST_FLAGS = 2


def pack_image(image):
    """The bytes of an image."""
    segments, entry, symbols = image
    found = bytes_of_words([FIRST_WORD, entry, len(segments)])
    for address, values, writable, executable in segments:
        flags = (1 if writable else 0) + (2 if executable else 0)
        found.extend(bytes_of_words([address, len(values), flags]))
        found.extend(values)
    found.extend(bytes_of_words([len(symbols)]))
    for address, name in symbols:
        found.extend(bytes_of_words([address, len(name)]))
        found.extend(_bytes_of_name(name))
    return found


def _bytes_of_name(name):
    return [ord(sign) for sign in name] + [0] * (_padded(len(name)) - len(name))


def _padded(count):
    """The next multiple of 4 that is not below a count."""
    return (count + 3) // 4 * 4


class Source:
    """Packed bytes that are read from the front to the back."""

    def __init__(self, data):
        self.data = data
        self.at = 0
        self.signs = {ord(sign): sign for sign in NAME_CHARACTERS}

    def take(self, count):
        """The next bytes; at is the index behind them then."""
        if self.at + count > len(self.data):
            raise ImageError(len(self.data))
        self.at += count
        return self.data[self.at - count:self.at]

    def take_word(self):
        return word_of_bytes(self.take(4), 0)

    def take_name(self, count):
        """The next name, which is allowed, and the bytes 0 behind it."""
        first = self.at
        values = self.take(_padded(count))
        name = "".join([self.signs.get(value, "?") for value in values[:count]])
        if not is_name(name) or any([value != 0 for value in values[count:]]):
            raise ImageError(first)
        return name


def unpack_image(data):
    """The image of packed bytes; ImageError tells where they are none."""
    source = Source(data)
    if source.take_word() != FIRST_WORD:
        raise ImageError(0)
    entry = source.take_word()
    segments = _take_segments(source)
    symbols = _take_symbols(source)
    if source.at != len(data):
        raise ImageError(source.at)
    return (segments, entry, symbols)


def _take_segments(source):
    at = source.at
    many = source.take_word()
    if not 1 <= many <= MOST_SEGMENTS:
        raise ImageError(at)
    segments = []
    free = 0
    total = 0
    for _ in range(many):
        segment = _take_segment(source, free, MOST_BYTES - total)
        free = segment[0] + len(segment[1])
        total += len(segment[1])
        segments.append(segment)
    return tuple(segments)


def _take_segment(source, free, most):
    """A segment from the address free on or behind it, with at most so many bytes."""
    at = source.at
    address = source.take_word()
    if address & 3 != 0 or address < free:
        raise ImageError(at)
    length = source.take_word()
    if length == 0 or length & 3 != 0 or length > most:
        raise ImageError(at + 4)
    # Only with the length can this be told, but it is the address that cannot stand there.
    if address + length > WORDS_IN_ALL:
        raise ImageError(at)
    flags = source.take_word()
    if flags > GREATEST_FLAGS:
        raise ImageError(at + 8)
    return (address, tuple(source.take(length)), flags == 1, flags == 2)


def _take_symbols(source):
    many = source.take_word()
    symbols = []
    # The first name of an allowed form is not below an empty one.
    last = (0, "")
    for _ in range(many):
        last = _take_symbol(source, last)
        symbols.append(last)
    return tuple(symbols)


def _take_symbol(source, last):
    """A symbol that is not below the last one."""
    at = source.at
    address = source.take_word()
    if address < last[0]:
        raise ImageError(at)
    length = source.take_word()
    if not 1 <= length <= LONGEST_NAME:
        raise ImageError(at + 4)
    symbol = (address, source.take_name(length))
    if symbol < last:
        raise ImageError(at)
    return symbol
