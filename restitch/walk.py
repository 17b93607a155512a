"""Old code and bodies of blocks, gone through with terms in the place of values."""

from restitch.codes import BRANCHES, is_alu
from restitch.holding import REGISTERS, facts_at
from restitch.kinds import MASK
from restitch.machine import holds
from restitch.settling import Settler
from restitch.sides import Side
from restitch.values import ZERO, only_word
from restitch.ways import allowed_targets, instruction_at, is_place, ways


class Code:
    """The old code with a table of facts: each address is looked at once."""

    def __init__(self, image, facts):
        self.image = image
        self.facts = facts
        self.places = {}

    def place(self, address):
        """The instruction (None if it is illegal), the pairs of each register whose only word is
        known and this word, and the targets of a jump by the facts; None if it is no place.
        """
        if address not in self.places:
            self.places[address] = self.looked_at(address)
        return self.places[address]

    def looked_at(self, address):
        if not is_place(self.image, address):
            return None
        instruction = instruction_at(self.image, address)
        facts = facts_at(self.facts, address)
        if facts is None:
            return instruction, (), self.targets_without_facts(address, instruction)
        words = [(number, only_word(fact)) for number, fact in enumerate(facts)]
        pairs = tuple([(number, word) for number, word in words if number != 0 and word is not None])
        return instruction, pairs, self.targets(address, instruction, facts)

    def targets_without_facts(self, address, instruction):
        if instruction is None or instruction[0] != "jalr":
            return []
        return allowed_targets(self.image, address, (ZERO, *[None] * (REGISTERS - 1)))

    def targets(self, address, instruction, facts):
        """The targets that the facts leave to a branch, or allow a jalr (None: any)."""
        if instruction is None:
            return []
        if instruction[0] == "jalr":
            return allowed_targets(self.image, address, facts)
        if instruction[0] in BRANCHES:
            return [target for target, _ in ways(self.image, address, facts)]
        return []


class Way:
    """An old way: what the steps from an address on do."""

    def __init__(self, pool, code, address):
        self.pool = pool
        self.code = code
        self.begun = []
        self.known = []
        self.last = ("at", address)
        self.settler = Settler(pool)
        self.side = Side(pool, self.first_registers(address), self.known)

    def first_registers(self, address):
        place = self.code.place(address)
        words = {} if place is None else dict(place[1])
        words[0] = 0
        return [
            self.pool.word(words[number]) if number in words else self.pool.term(("in", number))
            for number in range(REGISTERS)
        ]

    def go(self, steps):
        """Does so many steps; False if the way ends ahead of the last one."""
        for _ in range(steps):
            if self.last[0] != "at":
                return False
            self.step(self.last[1])
        return True

    def step(self, address):
        self.begun.append((address, len(self.side.events)))
        place = self.code.place(address)
        if place is None:
            self.last = ("trap", "fetch", address)
            return
        instruction, words, targets = place
        for number, word in words:
            self.learn(number, word)
        if instruction is None:
            self.last = ("trap", "illegal", address)
        else:
            self.follow(address, instruction, targets)

    def learn(self, number, word):
        """What the fact tells that a register is a word, unless its term tells a word, too."""
        term = self.side.registers[number]
        if self.pool.word_of(term) is not None or term in self.settler.given:
            return
        term = self.settler.settled(term)
        if self.pool.word_of(term) is None:
            self.known.append((term, word, len(self.side.events)))
            self.settler.learn(term, word)

    def follow(self, address, instruction, targets):
        """Does the instruction at an address."""
        op = instruction[0]
        behind = (address + 4) & MASK
        if is_alu(op):
            self.side.give(instruction[1], self.side.computed(instruction))
            self.last = ("at", behind)
        elif op in BRANCHES:
            self.branch(address, instruction, targets)
        elif op == "jal":
            self.side.give_word(instruction[1], behind)
            self.last = ("at", (address + 4 * instruction[2]) & MASK)
        elif op == "jalr":
            self.jump(instruction, targets, behind)
        elif op == "exit":
            self.last = ("exit", self.side.registers[instruction[1]])
        else:
            self.side.do(instruction, address)
            self.last = ("at", behind)

    def branch(self, address, instruction, targets):
        op, ra, rb, imm = instruction
        if len(targets) == 1:
            self.last = ("at", targets[0])
            return
        s, t = self.side.registers[ra], self.side.registers[rb]
        target, behind = (address + 4 * imm) & MASK, (address + 4) & MASK
        outcome = self.outcome(op, self.settler.settled(s), self.settler.settled(t))
        if outcome is None:
            self.last = ("branch", op, s, t, target, behind)
        else:
            self.last = ("at", target if outcome else behind)

    def outcome(self, op, s, t):
        """True or False if two settled terms decide a condition, else None."""
        if s == t:
            return holds(op, 0, 0)
        x, y = self.pool.word_of(s), self.pool.word_of(t)
        return None if x is None or y is None else holds(op, x, y)

    def jump(self, instruction, targets, behind):
        _, rd, ra, imm = instruction
        term = self.side.sum_of(ra, imm)
        word = self.only_target(term, targets)
        if word is None:
            self.last = ("through", term, targets, rd, behind)
            return
        self.side.give_word(rd, behind)
        self.last = ("at", word)

    def only_target(self, term, targets):
        """The only word that a jalr's target can be, or None."""
        if targets is not None and len(targets) == 1:
            return targets[0]
        word = self.pool.word_of(self.settler.settled(term))
        return word if word is not None and (targets is None or word in targets) else None


def old_way(pool, image, facts, address, steps):
    """What so many steps from an address on do; None if the way is refused."""
    way = Way(pool, Code(image, facts), address)
    if not way.go(steps):
        return None
    return way.side.registers, way.side.events, way.begun, way.known, way.last


def read_line(side, counts, line):
    """Does a line of a body on its side; the counts are added to. The term of its result, or None."""
    if line[0] == "do":
        return side.do(line[1], line[2])
    if line[0] == "count":
        counts.append((line[1], len(side.events)))
        return None
    side.give_word(line[1], line[2])
    return side.registers[line[1]]


def body_way(pool, registers, body, known):
    """What a block's body does with registers of these terms, by what the old way made known."""
    side = Side(pool, registers, sorted(known, key=lambda item: item[2]))
    counts = []
    for line in body:
        read_line(side, counts, line)
    return side.registers, side.events, counts


def settle(pool, known, ahead, term):
    """The term with what was known ahead of that many events, or with all that is known for -1."""
    return pool.settled({found: word for found, word, at in known if ahead == -1 or at <= ahead}, term)
