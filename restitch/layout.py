"""Books as code that is laid, and as packed bytes."""

from restitch.book import TRAPS, book_faults
from restitch.codes import BRANCHES, decode, encode
from restitch.errors import BookError
from restitch.kinds import MASK, is_byte
from restitch.words import bytes_of_words, word_of_bytes

LOAD_WORD = 63
COUNT = 62
THROUGH = 61
TRAP = 60
SHORT_GO = 59
LONG_GO = 58
SHORT_IF = 51
LONG_IF = 45
# A distance of a short jump is at least -half and less than half.
HALF_OF_GO = 2 ** 15
HALF_OF_IF = 2 ** 13
LOW_14 = 2 ** 14 - 1
LOW_26 = 2 ** 26 - 1
BEYOND_SHORT_IF = 57
HEADER = 4


class Layout:
    """The words of a book's code, while the jumps that must be long are found.

    A jump is a tuple (words ahead, short head, long head, half, index of the target block); a
    start of a block is a pair (words ahead, jumps ahead). The words ahead are those with all
    jumps short, each jump that is long ahead adds one.
    """

    def __init__(self, book):
        blocks = book[0]
        self.indices = {block[0]: index for index, block in enumerate(blocks)}
        self.fixed = []
        self.starts = []
        self.jumps = []
        words = 0
        for index, block in enumerate(blocks):
            following = blocks[index + 1][0] if index + 1 < len(blocks) else -1
            self.starts.append((words, len(self.jumps)))
            self.fixed.append(_fixed_words(block))
            words += len(self.fixed[-1])
            for jump in _jumps(block, following):
                self.jumps.append((words, *jump[:3], self.indices[jump[3]]))
                words += 1
        self.starts.append((words, len(self.jumps)))
        # 1 for each jump that must be long.
        self.longs = [0] * len(self.jumps)

    def stretch(self):
        """Makes those jumps long that must be."""
        more = True
        while more:
            # Each turn goes against the direction of its jumps, so that it need not be repeated
            # unless the other one made a jump long.
            self.stretch_forward_ones()
            more = self.stretch_backward_ones()

    def stretch_forward_ones(self):
        """One turn over the jumps to later blocks."""
        behind = [0] * (len(self.jumps) + 1)
        for at in reversed(range(len(self.jumps))):
            words, _, _, half, target = self.jumps[at]
            start, ahead = self.starts[target]
            if self.longs[at] == 0 and ahead > at and start - words + behind[at + 1] - behind[ahead] >= half:
                self.longs[at] = 1
            behind[at] = behind[at + 1] + self.longs[at]

    def stretch_backward_ones(self):
        """One turn over the jumps to the same block and to earlier ones; True if one became long."""
        more = False
        before = [0]
        for at, (words, _, _, half, target) in enumerate(self.jumps):
            start, ahead = self.starts[target]
            if self.longs[at] == 0 and ahead <= at and words - start + before[at] - before[ahead] > half:
                self.longs[at] = 1
                more = True
            before.append(before[at] + self.longs[at])
        return more

    def words(self):
        """The words of the code, and the offset of each block in words."""
        before = [0]
        for long in self.longs:
            before.append(before[-1] + long)
        offsets = [words + before[jumps] for words, jumps in self.starts[:-1]]
        found = []
        for index, fixed in enumerate(self.fixed):
            found.extend(fixed)
            for at in range(self.starts[index][1], self.starts[index + 1][1]):
                found.extend(self.words_of_jump(at, offsets[self.jumps[at][4]] - len(found)))
        return found, offsets

    def words_of_jump(self, at, distance):
        _, short, long, half, _ = self.jumps[at]
        if self.longs[at] == 1:
            return [long, distance & MASK]
        return [short + (distance & (2 * half - 1))]


def _fixed_words(block):
    """The words of a block that are no jumps."""
    _, body, end = block
    found = []
    for line in body:
        found.extend(_words_of_line(line))
    if end[0] == "through":
        _, ra, imm, rd, word = end
        found.extend([(THROUGH << 26) + (rd << 22) + (ra << 18) + (imm & LOW_14), word])
    elif end[0] == "exit":
        found.append(encode(end))
    elif end[0] == "trap":
        found.extend([(TRAP << 26) + TRAPS.index(end[1]), end[2]])
    return found


def _words_of_line(line):
    if line[0] == "do":
        return [encode(line[1]), line[2]]
    if line[0] == "li":
        return [(LOAD_WORD << 26) + line[1], line[2]]
    return [(COUNT << 26) + line[1]]


def _jumps(block, following):
    """The jumps at the end of a block: the heads, the half and the label of each."""
    _, body, end = block
    if end[0] == "go":
        # A block has a word at least, so that its offset is its own.
        return [] if end[1] == following and len(body) > 0 else [_go(end[1])]
    if end[0] != "if":
        return []
    _, op, ra, rb, first, second = end
    operands = (ra << 22) + (rb << 18)
    k = BRANCHES.index(op)
    jump = (((SHORT_IF + k) << 26) + operands, ((LONG_IF + k) << 26) + operands, HALF_OF_IF, first)
    return [jump] if second == following else [jump, _go(second)]


def _go(label):
    return (SHORT_GO << 26, LONG_GO << 26, HALF_OF_GO, label)


def _laid(book):
    """The words of the code, and the offset of each block in words."""
    layout = Layout(book)
    layout.stretch()
    return layout.words()


def lay(book):
    """The bytes of a book's code, and the pairs of each label and its offset."""
    words, offsets = _laid(book)
    places = [(block[0], 4 * offset) for block, offset in zip(book[0], offsets)]
    return bytes_of_words(words), tuple(sorted(places))


def pack(book):
    """The bytes of a book."""
    blocks, entry, table = book
    code, offsets = _laid(book)
    words = [len(blocks), len(table), len(code), entry]
    for address, label in table:
        words.extend([address, label])
    for block, offset in zip(blocks, offsets):
        words.extend([block[0], 4 * offset])
    words.extend(code)
    return bytes_of_words(words)


def unpack(data):
    """The book of packed bytes; BookError tells that they are none."""
    words = _words_of(data)
    many, rows, length, entry = words[:HEADER]
    if len(words) != HEADER + 2 * rows + 2 * many + length:
        raise BookError("the numbers of blocks, entries and words do not fit the length")
    at = HEADER + 2 * rows
    table = tuple([(words[k], words[k + 1]) for k in range(HEADER, at, 2)])
    marks = [(words[k], words[k + 1]) for k in range(at, at + 2 * many, 2)]
    book = (_blocks(marks, words[at + 2 * many:]), entry, table)
    # Each thing that the reading took for granted shows here.
    if book_faults(book) != [] or pack(book) != data:
        raise BookError("the bytes are not those of their book")
    return book


def _words_of(data):
    if not isinstance(data, list) or not all([is_byte(value) for value in data]):
        raise BookError("a packed book is a list of bytes")
    if len(data) & 3 != 0 or len(data) < 4 * HEADER:
        raise BookError("a packed book is made of words, four at least")
    return [word_of_bytes(data, at) for at in range(0, len(data), 4)]


def _blocks(marks, code):
    """The blocks with the labels and offsets of the marks."""
    labels = {offset // 4: label for label, offset in marks}
    found = []
    for index, (label, offset) in enumerate(marks):
        start = offset // 4
        stop, following = len(code), -1
        if index + 1 < len(marks):
            following, stop = marks[index + 1][0], marks[index + 1][1] // 4
        if not start < stop <= len(code):
            raise BookError("an offset is out of its order")
        body, at = _lines(code, start, stop)
        found.append((label, body, _end(Stretch(code, at, stop), labels, following)))
    return tuple(found)


def _lines(code, at, stop):
    """The lines from an offset on, and the offset behind them."""
    found = []
    while at < stop:
        line = _line(code[at], code[at + 1] if at + 1 < stop else None)
        if line is None:
            break
        found.append(line)
        at += 1 if line[0] == "count" else 2
    return tuple(found), at


def _line(word, following):
    """The line of a word and the one behind it; None if they are none."""
    number = word >> 26
    if number == COUNT:
        return ("count", word & LOW_26)
    if following is None:
        return None
    if number == LOAD_WORD:
        return ("li", word & LOW_26, following)
    instruction = decode(word)
    return None if instruction is None else ("do", instruction, following)


class Stretch:
    """The words of a block's end, which are taken from the front."""

    def __init__(self, code, at, stop):
        self.code = code
        self.at = at
        self.stop = stop

    def is_empty(self):
        return self.at == self.stop

    def take(self):
        if self.is_empty():
            raise BookError("a block ends too early")
        self.at += 1
        return self.code[self.at - 1]

    def take_label(self, labels, low, half):
        """The label at a distance from the last word: in its low bits, or behind it if half is 0."""
        place = self.at - 1
        if half == 0:
            distance = self.take()
        else:
            distance = low - 2 * half if low >= half else low
        target = (place + distance) & MASK
        if target not in labels:
            raise BookError("a jump leads to no block")
        return labels[target]


def _end(stretch, labels, following):
    """The end of a block; what does not fit it shows when the book is packed again."""
    if stretch.is_empty():
        return ("go", following)
    word = stretch.take()
    number = word >> 26
    if number == THROUGH:
        imm = word & LOW_14
        imm = imm - 2 * HALF_OF_IF if imm >= HALF_OF_IF else imm
        return ("through", (word >> 18) & 15, imm, (word >> 22) & 15, stretch.take())
    if number == TRAP:
        return ("trap", TRAPS[word & 3], stretch.take())
    if number in (SHORT_GO, LONG_GO):
        return _end_of_go(stretch, word, labels)
    if LONG_IF <= number < BEYOND_SHORT_IF:
        return _end_of_if(stretch, word, labels, following)
    return decode(word)


def _end_of_go(stretch, word, labels):
    half = HALF_OF_GO if word >> 26 == SHORT_GO else 0
    return ("go", stretch.take_label(labels, word & (2 * HALF_OF_GO - 1), half))


def _end_of_if(stretch, word, labels, following):
    number = word >> 26
    half = HALF_OF_IF if number >= SHORT_IF else 0
    op = BRANCHES[number - (SHORT_IF if half > 0 else LONG_IF)]
    first = stretch.take_label(labels, word & LOW_14, half)
    second = following
    if not stretch.is_empty():
        second = _end_of_go(stretch, stretch.take(), labels)[1]
    return ("if", op, (word >> 22) & 15, (word >> 18) & 15, first, second)
