"""Segments, images, and what may be loaded, stored and fetched."""

from restitch.kinds import WORDS_IN_ALL, is_byte, is_name, is_number, is_row, is_word

MOST_SEGMENTS = 16
MOST_BYTES = 65536


def image_faults(image):
    """The codes of what is wrong with an image, ascending, without duplicates."""
    if not is_row(image, 3):
        return ["segment"]
    segments, _, symbols = image
    listed = isinstance(segments, tuple)
    rows = [row for row in segments if is_row(row, 4)] if listed else []
    found = (
        ("both", any([row[2] is True and row[3] is True for row in rows])),
        ("order", _out_of_order(rows)),
        ("segment", not listed or not all([_is_segment(row) for row in segments])),
        ("size", listed and _has_bad_size(len(segments), rows)),
        ("symbol", not _are_symbols(symbols)),
    )
    return [code for code, wrong in found if wrong]


def _is_segment(row):
    """True for a segment of the right form, even one that is writable and executable."""
    if not is_row(row, 4):
        return False
    address, values, writable, executable = row
    if not is_word(address) or address & 3 != 0:
        return False
    if not isinstance(values, tuple) or len(values) < 4 or len(values) & 3 != 0:
        return False
    if not isinstance(writable, bool) or not isinstance(executable, bool):
        return False
    return all([is_byte(value) for value in values])


def _spans(rows):
    """The pairs (address, address behind) of the rows of which they can be told."""
    return [(row[0], row[0] + _length(row)) for row in rows if is_number(row[0])]


def _length(row):
    return len(row[1]) if isinstance(row[1], tuple) else 0


def _out_of_order(rows):
    spans = _spans(rows)
    for (address, behind), following in zip(spans, spans[1:]):
        if following[0] <= address or following[0] < behind:
            return True
    return False


def _has_bad_size(count, rows):
    if not 1 <= count <= MOST_SEGMENTS:
        return True
    if sum([_length(row) for row in rows]) > MOST_BYTES:
        return True
    return any([span[1] > WORDS_IN_ALL for span in _spans(rows)])


def _are_symbols(symbols):
    if not isinstance(symbols, tuple):
        return False
    if not all([is_row(pair, 2) and is_word(pair[0]) and is_name(pair[1]) for pair in symbols]):
        return False
    return all([pair <= following for pair, following in zip(symbols, symbols[1:])])


def find_segment(image, address, count):
    """The index of the segment that holds count bytes from address on, or -1."""
    for index, segment in enumerate(image[0]):
        first = segment[0]
        if first <= address and address + count <= first + len(segment[1]):
            return index
    return -1


def can_load(image, address, count):
    if count == 4 and address & 3 != 0:
        return False
    return find_segment(image, address, count) != -1


def can_store(image, address, count):
    if not can_load(image, address, count):
        return False
    return image[0][find_segment(image, address, count)][2]


def can_fetch(image, address):
    if not can_load(image, address, 4):
        return False
    return image[0][find_segment(image, address, 4)][3]


def load_word(image, memory, address, count):
    """The value of count bytes of a memory, lowest byte first; the load must be allowed."""
    index = find_segment(image, address, count)
    offset = address - image[0][index][0]
    values = memory[index]
    value = 0
    for k in range(count):
        value += values[offset + k] << (8 * k)
    return value


def store_word(image, memory, address, count, value):
    """The memory with a value in count bytes, lowest byte first; the store must be allowed."""
    index = find_segment(image, address, count)
    values = list(memory[index])
    put_bytes(values, address - image[0][index][0], count, value)
    return memory[:index] + (tuple(values),) + memory[index + 1:]


def put_bytes(values, offset, count, value):
    """Writes the low count bytes of a value into a list, lowest byte first."""
    for k in range(count):
        values[offset + k] = (value >> (8 * k)) & 255


def first_memory(image):
    """The memory at the start of a run."""
    return tuple([segment[1] for segment in image[0]])


def word_at(image, address):
    """The word of the image at an address that can be fetched."""
    return load_word(image, first_memory(image), address, 4)
