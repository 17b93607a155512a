"""Images that several test files run, and chances that make more of them."""

import random

from helpers import bytes_of, code_segment, constant_segment, data_segment, image_of
from restitch.codes import OPS, decode, encode
from restitch.memory import image_faults
from restitch.text import assemble

ALL = tuple(range(1, 16))
CONSTANTS = 4096
DATA = 6000
THREE = OPS[:13]
WITH_IMMEDIATE = OPS[13:21]
BRANCHES = OPS[27:33]


def image_of_text(text, *others, entry=0):
    segment = (0, bytes_of(assemble(text)), False, True)
    return (tuple(sorted([segment, *others])), entry, ())


def constants(*words):
    return constant_segment(CONSTANTS, bytes_of(words))


def data(*words):
    return data_segment(DATA, bytes_of(words))


ECHO = image_of([("get", 1), ("beq", 1, 0, 3), ("put", 1), ("jal", 0, -3), ("exit", 1)], address=64)

COUNTING = image_of_text("""
addi r1, r0, 5
addi r2, r0, 0
loop:
addi r2, r2, 3
addi r1, r1, -1
bne r1, r0, loop
put r2
exit r2
""")

CALLS = image_of_text("""
get r1
jal r15, twice
put r1
jal r15, twice
put r1
exit r0
twice:
add r1, r1, r1
jalr r0, r15, 0
""")

SWITCH = image_of_text("""
get r1
andi r1, r1, 4
lw r2, r1, 4096
jalr r0, r2, 0
addi r3, r0, 1
jal r0, end
addi r3, r0, 2
end:
put r3
exit r3
""", constants(16, 24))

MEMORY = image_of_text("""
get r1
sw r1, r0, 6000
lw r2, r0, 6000
get r3
sb r3, r1, 6004
lw r4, r0, 6000
lbu r5, r0, 6004
put r5
put r4
sw r4, r3, 6000
exit r2
""", data(7, 8, 9))

WILD = image_of_text("""
get r1
get r2
shli r2, r2, 2
jalr r3, r2, 0
put r1
put r3
exit r1
word 0
get r4
""")

NO_CODE = image_of([("exit", 0)], entry=2)

FIXED = (ECHO, COUNTING, CALLS, SWITCH, MEMORY, WILD, NO_CODE)
INPUTS = ([], [1], [0, 4, 255, 8], [16, 4, 0, 12, 7, 24, 3, 2, 1, 0, 200, 128])


def free_image(chance):
    """An image of any words, or None if it has faults."""
    count = chance.randint(1, 40)
    kinds = chance.choice((3, 4, 6, 16))
    base = chance.choice((0, 64, 4096, 2 ** 32 - 4 * count))
    near = base if base < 8000 else 0
    places = [near + 4 * chance.randrange(count), near, CONSTANTS + 1024, DATA, DATA + 4, DATA + 5, 5]
    wild = chance.random() < 0.5
    words = [free_word(chance, kinds, index, count, places, wild) for index in range(count)]
    segments = [code_segment(base, words)]
    if chance.random() < 0.8:
        entries = [chance.choice(places + [near + 4 * chance.randrange(count)]) for _ in range(chance.randint(1, 8))]
        segments.append(constant_segment(CONSTANTS + 1024, bytes_of(entries)))
    if chance.random() < 0.8:
        segments.append(data_segment(DATA, [chance.randrange(256) for _ in range(4 * chance.randint(1, 6))]))
    entry = base if chance.random() < 0.9 else chance.choice((base + 4 * chance.randrange(count), base + 2, DATA, 7777))
    image = (tuple(sorted(segments)), entry, ())
    return None if image_faults(image) else image


def free_word(chance, kinds, index, count, places, wild):
    def reg():
        return chance.randrange(kinds)
    kind = chance.random()
    if kind < 0.12:
        word = (chance.choice(THREE), reg(), reg(), reg())
    elif kind < 0.33:
        word = (chance.choice(WITH_IMMEDIATE), reg(), reg(), chance.choice((0, 1, 2, 4, 8, -1, 12, 28, 31, chance.randint(-8192, 8191))))
    elif kind < 0.36:
        word = ("lui", reg(), chance.choice((0, 1, 2 ** 18 - 1)))
    elif kind < 0.46:
        word = (chance.choice(("lw", "lb", "lbu")), reg(), chance.choice((0, reg())), chance.choice(places + [chance.randint(-9, 9)]))
    elif kind < 0.55:
        word = (chance.choice(("sw", "sb")), reg(), chance.choice((0, 0, reg())), chance.choice(places))
    elif kind < 0.67:
        word = (chance.choice(BRANCHES), reg(), reg(), chance.randint(-index - 1, count - index))
    elif kind < 0.75:
        word = ("jal", chance.choice((0, 1, 2)), chance.randint(-index - 1, count - index))
    elif kind < 0.82 and wild:
        word = ("jalr", chance.choice((0, 0, 1)), chance.choice((0, 1, 2)), chance.choice((0, 4, places[0])))
    elif kind < 0.88:
        word = ("get", reg())
    elif kind < 0.95:
        word = ("put", reg())
    elif kind < 0.97:
        word = ("exit", reg())
    elif kind < 0.98:
        word = chance.choice((0, 123, 2 ** 32 - 1))
    else:
        word = ("addi", reg(), 0, chance.choice(places))
    if isinstance(word, int) or decode(encode(word)) == word:
        return word
    return ("addi", 1, 0, 7)


class Writer:
    """Writes the text of a program with loops by a count, calls, and jumps through tables."""

    def __init__(self, chance):
        self.chance = chance
        self.labels = 0
        self.tables = []
        self.routines = [f"routine{number}" for number in range(chance.randint(0, 3))]

    def label(self):
        self.labels += 1
        return f"label{self.labels}"

    def reg(self):
        return f"r{self.chance.randint(1, 5)}"

    def line(self):
        chance, kind = self.chance, self.chance.random()
        if kind < 0.2:
            return f"{chance.choice(THREE)} {self.reg()}, {self.reg()}, {self.reg()}"
        if kind < 0.4:
            return f"{chance.choice(WITH_IMMEDIATE)} {self.reg()}, {self.reg()}, {chance.choice((0, 1, 2, 4, 7, 24, 31, 255, -1))}"
        if kind < 0.6:
            return f"{chance.choice(('get', 'put'))} {self.reg()}"
        if kind < 0.65:
            return f"addi {self.reg()}, r0, {chance.choice((0, 1, 5, CONSTANTS, DATA, DATA + 4))}"
        place = chance.choice((f"r0, {DATA}", f"r0, {DATA + 4}", f"r0, {CONSTANTS}", "r7, 0", "r7, 4", "r7, 1", "r8, 0", "r8, 1"))
        op = chance.choice(("lw", "lb", "lbu", "sw", "sb"))
        return f"{op} {self.reg()}, {place}"

    def lines(self, depth):
        found = []
        for _ in range(self.chance.randint(1, 5)):
            kind = self.chance.random()
            if kind < 0.6 or depth == 0:
                found.append(self.line())
            elif kind < 0.7:
                found.extend(self.loop(depth))
            elif kind < 0.8:
                found.extend(self.choice(depth))
            elif kind < 0.92 and self.routines:
                found.append(f"jal r15, {self.chance.choice(self.routines)}")
            else:
                found.extend(self.switch())
        return found

    def loop(self, depth):
        head, counter = self.label(), self.chance.choice(("r9", "r10"))
        ahead = [f"addi {counter}, r0, {self.chance.randint(1, 4)}", f"{head}:"]
        return ahead + self.lines(depth - 1) + [f"addi {counter}, {counter}, -1", f"bne {counter}, r0, {head}"]

    def choice(self, depth):
        other, end = self.label(), self.label()
        first, second = self.lines(depth - 1), self.lines(depth - 1)
        return [f"{self.chance.choice(BRANCHES)} {self.reg()}, {self.reg()}, {other}", *first, f"jal r0, {end}", f"{other}:", *second, f"{end}:"]

    def switch(self):
        labels, end = [self.label() for _ in range(self.chance.choice((2, 4)))], self.label()
        at = CONSTANTS + 16 + 4 * sum(len(table) for table in self.tables)
        self.tables.append(labels)
        found = ["get r11", f"andi r11, r11, {4 * (len(labels) - 1)}", f"lw r11, r11, {at}", "jalr r0, r11, 0"]
        for label in labels:
            found.extend([f"{label}:", *self.lines(0), f"jal r0, {end}"])
        return found + [f"{end}:"]


def written_image(chance):
    """An image of a program that is written, or None if it has faults."""
    writer = Writer(chance)
    lines = [chance.choice((f"addi r7, r0, {DATA}", "get r7")), "get r8", f"andi r8, r8, {chance.choice((4, 12, 28))}"]
    lines += [f"addi r8, r8, {DATA}"] + writer.lines(chance.choice((1, 2)))
    if chance.random() < 0.2:
        lines.append("jalr r0, r1, 0")
    lines.append("exit r1")
    for routine in writer.routines:
        lines += [f"{routine}:", *writer.lines(chance.choice((0, 1))), "jalr r0, r15, 0"]
    addresses, count = {}, 0
    for line in lines:
        if line.endswith(":"):
            addresses[line[:-1]] = 4 * count
        else:
            count += 1
    words = [chance.choice((0, 1, 8, DATA, 2 ** 31)) for _ in range(4)]
    words += [addresses[label] for labels in writer.tables for label in labels]
    image = image_of_text("\n".join(lines), constants(*words), data(*[chance.randrange(2 ** 32) for _ in range(8)]))
    return None if image_faults(image) else image


def memory_image(chance):
    """An image with many loads and stores at few addresses, or None if it has faults."""
    def reg():
        return chance.randint(0, 4)
    code = [("get", 7), ("andi", 7, 7, chance.choice((0, 4, 3, 12, 28))), ("addi", 7, 7, DATA), ("addi", 8, 7, chance.choice((0, 4, 1, 8)))]
    for _ in range(chance.randint(3, 25)):
        kind, base, near = chance.random(), chance.choice((7, 7, 8, 0)), chance.choice((0, 0, 4, 1, 2, 3, 5))
        near += DATA if base == 0 else 0
        if kind < 0.45:
            code.append((chance.choice(("lw", "lb", "lbu", "lbu", "lb")), reg(), base, near))
        elif kind < 0.7:
            code.append((chance.choice(("sw", "sb", "sb")), reg(), base, near))
        elif kind < 0.86:
            code.append((chance.choice(THREE), reg(), reg(), reg()))
        elif kind < 0.96:
            code.append((chance.choice(("get", "put")), reg()))
        else:
            code.append(chance.choice((("jal", 0, 1), ("beq", reg(), reg(), 2))))
    code += [("put", 1), ("put", 2), ("put", 3), ("exit", 4)]
    values = [chance.randrange(256) for _ in range(32)]
    return image_of(code, chance.choice((data_segment, data_segment, constant_segment))(DATA, values))


MAKERS = (free_image, written_image, memory_image)


def chance_images(first, count):
    """Images that chances make, each with its chance: the same ones at each call."""
    for seed in range(first, first + count):
        chance = random.Random(seed)
        image = MAKERS[seed % len(MAKERS)](chance)
        if image is not None:
            yield chance, image
