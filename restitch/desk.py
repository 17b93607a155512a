"""Blocks beside their old ways: whether the row of a block is kept."""

from restitch.holding import REGISTERS
from restitch.settling import Foresight
from restitch.sides import Side
from restitch.symbols import Pool
from restitch.walk import Code, Way, read_line
from restitch.ways import places

# Rewritings make no block of more steps than that out of two.
MOST_STEPS_TOGETHER = 400
OPPOSITES = {"beq": "bne", "bne": "beq", "blt": "bge", "bge": "blt", "bltu": "bgeu", "bgeu": "bltu"}


class Desk:
    """What all rows of a book and its paper are held against."""

    def __init__(self, image, book, paper):
        self.image = image
        self.code = Code(image, paper[0])
        self.rows = {row[0]: row for row in paper[1]}
        self.table = dict(book[2])
        self.counters = {place: number for number, place in paper[2]}
        self.any_same = None
        self.any_looked_at = False

    def walked(self, label):
        """The old way of the row of a label."""
        way = Way(Pool(), self.code, self.rows[label][1])
        way.go(self.rows[label][3])
        return way

    def own_side(self, label, way):
        """The book's side at the beginning of a block, for an old way that may be done already."""
        same = self.rows[label][2]
        registers = way.first_registers(self.rows[label][1])
        for number in range(1, REGISTERS):
            if number not in same:
                registers[number] = way.pool.term(("loose", number))
        return Side(way.pool, registers, way.known)

    def takes(self, label, steps, body, end):
        """True if the block of a label would be taken with these steps, this body and this end."""
        return Passage(self, label).reason(steps, body, end) is None

    def same_behind(self, targets):
        """The registers that must agree where a jump to these places leads (None: to any place).

        None if the table of the book does not lead from one of the places to its new code.
        """
        if targets is not None:
            return self.same_of([target for target in targets if self.code.place(target) is not None])
        if not self.any_looked_at:
            self.any_looked_at = True
            self.any_same = self.same_of(places(self.image))
        return self.any_same

    def same_of(self, addresses):
        found = {}
        for address in addresses:
            label = self.table.get(address)
            if label is None or self.rows[label][1] != address:
                return None
            for number in self.rows[label][2]:
                found[number] = True
        return list(found)


class Passage:
    """A block beside its old way. Both may be lengthened behind what was found to agree."""

    def __init__(self, desk, label, way=None):
        self.desk = desk
        self.way = Way(Pool(), desk.code, desk.rows[label][1]) if way is None else way
        self.pool = self.way.pool
        self.side = desk.own_side(label, self.way)
        self.counts = []
        self.agreed = 0
        self.ahead = Foresight(self.pool, self.way.known)

    def reason(self, steps, body, end):
        """Why the block is refused behind so many more steps and lines, or None."""
        if not self.way.go(steps):
            return "way"
        self.read(body)
        if not self.same_events():
            return "event"
        if not self.fits(end):
            return "end"
        return None if self.same_counts() else "count"

    def read(self, body):
        for line in body:
            read_line(self.side, self.counts, line)

    def same_events(self):
        """True if the events agree; those that did before are not looked at again."""
        old, own = self.way.side.events, self.side.events
        if len(old) != len(own):
            return False
        for at in range(self.agreed, len(old)):
            if not self.is_same_event(at, old[at], own[at]):
                return False
        self.agreed = len(old)
        return True

    def is_same_event(self, at, old, own):
        if old[0] != own[0] or old[3] != own[3]:
            return False
        for s, t in ((old[1], own[1]), (old[2], own[2])):
            if s != t and self.ahead.settled(at, s) != self.ahead.settled(at, t):
                return False
        return True

    def same_counts(self):
        """True if the counters are added to between the same events, each as often."""
        counters = self.desk.counters
        due = [(counters[address], ahead) for address, ahead in self.way.begun if address in counters]
        return sorted(due) == sorted(self.counts)

    def equal(self, s, t):
        """True if two terms are one by what is known at the end."""
        return s == t or self.way.settler.settled(s) == self.way.settler.settled(t)

    def fits(self, end):
        """True if an end does what the end of the way does."""
        last = self.way.last
        if end[0] == "go":
            return last[0] == "at" and self.leads(end[1], last[1])
        if end[0] == "if":
            return last[0] == "branch" and self.fits_branch(end, last)
        if end[0] == "through":
            return last[0] == "through" and self.fits_jump(end, last)
        if end[0] == "exit":
            return last[0] == "exit" and self.equal(last[1], self.side.registers[end[1]])
        return last == end

    def leads(self, label, address):
        """True if a block stands for the code at an address, with what must agree there."""
        row = self.desk.rows[label]
        return row[1] == address and self.agrees(row[2], self.way.side.registers, self.side.registers)

    def agrees(self, same, old, own):
        return all([self.equal(old[number], own[number]) for number in same])

    def fits_branch(self, end, last):
        _, op, ra, rb, first, second = end
        _, cond, s, t, target, behind = last
        if not self.equal(s, self.side.registers[ra]) or not self.equal(t, self.side.registers[rb]):
            return False
        if op == cond:
            return self.leads(first, target) and self.leads(second, behind)
        return op == OPPOSITES[cond] and self.leads(first, behind) and self.leads(second, target)

    def fits_jump(self, end, last):
        _, ra, imm, own_rd, own_word = end
        _, term, targets, old_rd, old_word = last
        same = self.desk.same_behind(targets)
        if same is None or not self.equal(term, self.side.sum_of(ra, imm)):
            return False
        old = self.written(self.way.side.registers, old_rd, old_word)
        own = self.written(self.side.registers, own_rd, own_word)
        return self.agrees(same, old, own)

    def written(self, registers, number, word):
        """The registers behind one of them got a word, which register 0 does not."""
        found = list(registers)
        if number != 0:
            found[number] = self.pool.word(word)
        return found
