"""Words as bytes, lowest byte first."""


def bytes_of_words(words):
    """The list of the bytes of words."""
    found = []
    for word in words:
        found.extend([word & 255, (word >> 8) & 255, (word >> 16) & 255, word >> 24])
    return found


def word_of_bytes(values, at):
    """The word of the four bytes from an index on."""
    return values[at] + (values[at + 1] << 8) + (values[at + 2] << 16) + (values[at + 3] << 24)
