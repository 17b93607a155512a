"""Registers that are wanted, and lines that none of them needs."""

from restitch.book import targets_of_end
from restitch.codes import LOADS, is_alu, reads, writes
from restitch.desk import Desk, Passage
from restitch.holding import REGISTERS


def wanted(image, book, paper):
    """For each label the registers that are wanted at the beginning of its block, ascending."""
    return _wants(image, book, paper).shown()


def dead(image, book, paper, *, amount=0):
    """The pair without the lines, and the registers in same, that are not wanted."""
    wants = _wants(image, book, paper)
    facts, rows, counters = paper
    shown = wants.shown()
    blocks = tuple([(label, wants.kept_lines(label, body), end) for label, body, end in book[0]])
    left = [
        (label, address, tuple([number for number in same if number in shown[label]]), steps)
        for label, address, same, steps in rows
    ]
    return (blocks, book[1], book[2]), (facts, tuple(left), counters)


def _wants(image, book, paper):
    wants = Wants(Desk(image, book, paper), book)
    wants.spread()
    return wants


def _bits(numbers):
    """A set of registers as a number: bit k for register k."""
    found = 0
    for number in numbers:
        found |= 1 << number
    return found


class Wants:
    """The registers that are wanted at the beginnings of blocks, as numbers of bits."""

    def __init__(self, desk, book):
        self.ends = {label: end for label, _, end in book[0]}
        self.uses = {label: _uses_of_body(desk, label, body) for label, body, _ in book[0]}
        self.bits = {label: 0 for label in self.ends}
        # The blocks that edges lead from, and those from which all entries of the table are led to.
        self.sources = {label: [] for label in self.ends}
        self.jumping = [label for label, end in self.ends.items() if end[0] == "through"]
        self.tabled = {label: True for _, label in book[2]}
        self.bits_of_table = 0
        for label, end in self.ends.items():
            for target in targets_of_end(end):
                self.sources[target].append(label)

    def spread(self):
        """Finds the least sets, from none on."""
        waiting = list(self.ends)
        queued = {label: True for label in waiting}
        while waiting:
            label = waiting.pop()
            del queued[label]
            bits = self.bits_ahead(label)
            if bits == self.bits[label]:
                continue
            self.bits[label] = bits
            for source in self.touched(label):
                if source not in queued:
                    queued[source] = True
                    waiting.append(source)

    def touched(self, label):
        """The blocks whose wanted registers may be more, since those of a label are."""
        bits = self.bits_of_table | self.bits[label]
        if label not in self.tabled or bits == self.bits_of_table:
            return self.sources[label]
        self.bits_of_table = bits
        return self.sources[label] + self.jumping

    def bits_behind(self, label):
        """The registers that are wanted behind the lines of a block."""
        end = self.ends[label]
        if end[0] == "through":
            return ((self.bits_of_table & ~(1 << end[3])) | (1 << end[1])) & ~1
        if end[0] == "exit":
            return (1 << end[1]) & ~1
        found = _bits(end[2:4]) if end[0] == "if" else 0
        for target in targets_of_end(end):
            found |= self.bits[target]
        return found & ~1

    def bits_ahead(self, label):
        """The registers that are wanted at the beginning of a block, by those of the others."""
        bits = self.bits_behind(label)
        for may_go, read, written in reversed(self.uses[label]):
            if not may_go or bits & written != 0:
                bits = (bits & ~written) | read
        return bits

    def kept_lines(self, label, body):
        """The lines of a body that are needed."""
        bits = self.bits_behind(label)
        kept = []
        for line, (may_go, read, written) in reversed(list(zip(body, self.uses[label]))):
            if not may_go or bits & written != 0:
                bits = (bits & ~written) | read
                kept.append(line)
        return tuple(reversed(kept))

    def shown(self):
        return {
            label: tuple([number for number in range(1, REGISTERS) if (bits >> number) & 1 == 1])
            for label, bits in self.bits.items()
        }


def _uses_of_body(desk, label, body):
    """For each line whether it may go if its result is not wanted, what it reads, and what it writes."""
    passage = Passage(desk, label, desk.walked(label))
    found = []
    for line in body:
        ahead = len(passage.side.events)
        passage.read([line])
        found.append(_uses_of_line(line, len(passage.side.events) == ahead))
    return found


def _uses_of_line(line, quiet):
    if line[0] == "count":
        return False, 0, 0
    if line[0] == "li":
        return True, 0, _bits([line[1]]) & ~1
    instruction = line[1]
    may_go = is_alu(instruction[0]) or (quiet and instruction[0] in LOADS)
    number = writes(instruction)
    return may_go, _bits(reads(instruction)), 0 if number == -1 else 1 << number
