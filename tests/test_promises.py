"""What the document promises over the whole program, for images and rewritings that chances make."""

import random
import unittest
from collections import Counter

from helpers import TOP, data_segment, image_of
from samples import ALL, FIXED, INPUTS, MAKERS, chance_images, constants, data, image_of_text
from restitch import house
from restitch.book import book_faults
from restitch.checker import check, refusal
from restitch.errors import BookError
from restitch.first import first_book
from restitch.house import WORDS, rewrite
from restitch.image import pack_image, unpack_image
from restitch.layout import lay, pack, unpack
from restitch.link import link
from restitch.machine import last_state, run, trace
from restitch.runbook import last_of_book, run_book
from restitch.text import assemble, show_code, show_instruction
from restitch.ways import instruction_at

SHORTENING = ("join", "copies", "known", "reuse", "dead", "drop")
FUEL = 250


class Case(unittest.TestCase):
    def check_run(self, image, pair, data, fuel):
        """The book's run is the image's; fuel(n) is what it may take where the image's takes n steps."""
        book, paper = pair
        out, end, steps = run(image, data, fuel=FUEL)
        found, other_end, taken, counts = run_book(image, book, data, fuel=FUEL if end == ("none",) else fuel(steps))
        if end == ("none",):
            self.assertEqual(other_end, end)
            least = min(len(out), len(found))
            self.assertEqual(out[:least], found[:least])
            return None
        self.assertEqual((found, other_end), (out, end))
        state = last_of_book(image, book, data, fuel=fuel(steps))
        self.assertEqual(state[3], last_state(image, data, fuel=FUEL)[2])
        begun = Counter(trace(image, data, fuel=FUEL))
        self.assertEqual({number: dict(counts).get(number, 0) for number, _ in paper[2]}, {number: begun[place] for number, place in paper[2]})
        return taken

    def check_pair(self, image, pair, fuel=lambda steps: 8 * steps + 64):
        self.assertIsNone(refusal(image, *pair))
        self.assertIs(check(image, *pair), True)
        self.assertEqual(book_faults(pair[0]), [])
        return [self.check_run(image, pair, found, fuel) for found in INPUTS]


class Rewritings(Case):
    """Any rewritings in any order, with any amounts, by facts or whole."""

    def check_script(self, image, script, whole):
        pair = first_book(image, whole=whole)
        steps = self.check_pair(image, pair)
        for word, amount in script:
            last, pair = pair, rewrite_pair(image, pair, word, amount)
            before, steps = steps, self.check_pair(image, pair)
            self.assertEqual(pair[1][0], last[1][0])
            if word in SHORTENING:
                for one, other in zip(before, steps):
                    self.assertTrue(one is None or other <= one, (word, one, other))
        self.assertEqual(rewrite(image, script, whole=whole), pair)
        self.assertEqual(unpack(pack(pair[0])), pair[0])
        for word in ("known", "reuse", "dead", "drop"):
            once = rewrite_pair(image, pair, word)
            self.assertEqual(rewrite_pair(image, once, word), once)

    def test_fixed_images(self):
        for seed, image in enumerate(FIXED * 3):
            chance = random.Random(seed)
            self.check_script(image, [(chance.choice(WORDS), chance.choice((-1, -1, 0, 1, 2, 1000))) for _ in range(8)], seed % 2 == 1)

    def test_each_pair_of_words(self):
        for chance, image in list(chance_images(8000, 4)) + [(None, image) for image in FIXED]:
            for word in WORDS:
                for other in WORDS:
                    self.check_pair(image, rewrite(image, [(word, -1), (other, -1)]))

    def test_chance_images(self):
        for chance, image in chance_images(9000, 500):
            script = [(chance.choice(WORDS), chance.choice((-1, -1, -1, 0, 1, 2, 3, 1000))) for _ in range(chance.randint(0, 7))]
            self.check_script(image, script, chance.random() < 0.3)

    def test_long_scripts(self):
        for chance, image in chance_images(9500, 9):
            script = [(chance.choice(WORDS), -1) for _ in range(200)]
            pair = rewrite(image, script)
            if sum(len(body) for _, body, _ in pair[0][0]) < 20000:
                self.check_pair(image, pair)

    def test_a_run_of_many_steps(self):
        text = """
            lui r1, 1
            addi r5, r0, 0
            loop: 
            add r2, r2, r1
            sb r2, r5, 6000
            andi r3, r1, 1
            beq r3, r0, even
            xor r4, r4, r2
            even:
            addi r1, r1, -64
            bne r1, r0, loop
            put r4
            exit r2
        """
        image = image_of_text(text, data(0))
        out, end, steps = run(image, [], fuel=10 ** 5)
        self.assertEqual(end[0], "exit")
        pair = rewrite(image, [(word, -1) for word in (*WORDS, "copies", "join", "known", "dead")])
        found = run_book(image, pair[0], [], fuel=8 * steps + 64)
        self.assertEqual(found[:2], (out, end))


class Changes(Case):
    """Whatever the checker takes, whoever made it, has the image's run."""

    def changed(self, chance, pair):
        (blocks, entry, table), (facts, rows, counters) = pair
        blocks, rows = [list(block) for block in blocks], [list(row) for row in rows]
        labels = [block[0] for block in blocks]
        block, row = chance.choice(blocks), chance.choice(rows)
        kind = chance.randrange(12)
        if kind < 5:
            block[1] = self.changed_body(chance, kind, list(block[1]))
        elif kind == 5:
            block[2] = self.changed_end(chance, block[2], labels)
        elif kind == 6:
            row[3] = max(0, row[3] + chance.choice((-2, -1, 1, 2)))
        elif kind == 7:
            row[2] = tuple(sorted(chance.sample(row[2], max(0, len(row[2]) - 1))))
        elif kind == 8:
            row[2] = tuple(sorted({*row[2], chance.randrange(1, 6)}))
        elif kind == 9:
            label = max(labels) + 1
            blocks.append([label, (), ("go", row[0])])
            rows.append([label, row[1], row[2], 0])
            if block[2][0] == "go":
                block[2] = ("go", label)
        elif kind == 10:
            self.cut(chance, blocks, rows, block)
        else:
            table = tuple(pair for pair in table if chance.random() < 0.9)
        blocks = tuple(tuple(block) for block in blocks)
        return (blocks, entry, table), (facts, tuple(sorted(tuple(row) for row in rows)), counters)

    def changed_body(self, chance, kind, body):
        at = chance.randrange(len(body) + 1)
        if kind == 0 or not body:
            line = ("do", (chance.choice(("add", "xor", "sltu")), chance.randrange(6), chance.randrange(6), chance.randrange(6)), 0)
            body.insert(at, chance.choice((line, ("li", chance.randrange(8), chance.choice((0, 1, 4))), ("count", 0))))
        elif kind == 1:
            body.pop(at - 1)
        elif kind == 2:
            body.insert(at, chance.choice(body))
        elif kind == 3 and at < len(body):
            body[at - 1], body[at] = body[at], body[at - 1]
        else:
            line = body[at - 1]
            if line[0] == "do":
                operands = list(line[1])
                operands[chance.randrange(1, len(operands))] = chance.randrange(6)
                body[at - 1] = ("do", tuple(operands), line[2])
        return tuple(body)

    def changed_end(self, chance, end, labels):
        opposites = {"beq": "bne", "bne": "beq", "blt": "bge", "bge": "blt", "bltu": "bgeu", "bgeu": "bltu"}
        if end[0] == "go":
            return ("go", chance.choice(labels))
        if end[0] == "if":
            return chance.choice((
                ("if", opposites[end[1]], end[2], end[3], end[5], end[4]), (*end[:5], chance.choice(labels)), ("if", end[1], end[3], end[2], *end[4:]),
            ))
        if end[0] == "through":
            return ("through", chance.randrange(6), *end[2:])
        return (end[0], chance.randrange(6)) if end[0] == "exit" else end

    def cut(self, chance, blocks, rows, block):
        """Makes two blocks of one, as if each line were an old instruction."""
        row = [row for row in rows if row[0] == block[0]][0]
        at = chance.randrange(len(block[1]) + 1)
        label = max(block[0] for block in blocks) + 1
        blocks.append([label, block[1][at:], block[2]])
        rows.append([label, (row[1] + 4 * at) % 2 ** 32, ALL, max(0, row[3] - at)])
        block[1], block[2], row[3] = block[1][:at], ("go", label), min(at, row[3])

    def test_changed_pairs(self):
        taken = Counter()
        for chance, image in chance_images(10000, 240):
            start = pair = rewrite(image, [(chance.choice(WORDS), -1) for _ in range(chance.randrange(4))])
            for _ in range(25):
                other = self.changed(chance, pair)
                found = refusal(image, *other)
                taken[None if found is None else found[1]] += 1
                self.assertEqual(check(image, *other), found is None)
                if found is None:
                    self.check_pair(image, other, fuel=lambda steps: 20 * steps + 5000)
                    self.check_rewriting(chance, image, other)
                    pair = other if len(other[0][0]) < 50 else start
        self.assertGreater(taken[None], 500)
        self.assertLessEqual({"form", "way", "event", "end", "count", "ring"}, set(taken))

    def check_rewriting(self, chance, image, pair):
        """A rewriting takes any pair that the checker takes."""
        (blocks, entry, table), paper = pair
        word = chance.choice(WORDS)
        other = rewrite_pair(image, pair, word)
        self.assertIsNone(refusal(image, *other), word)


def rewrite_pair(image, pair, word, amount=-1):
    return house._rewritten(image, pair, word, amount)


class Chains(Case):
    """From text to words, to an image, to bytes and back, to a book, to bytes and back."""

    MAIN = """
        lui r7, 0
        addi r7, r7, 0
        get r1
        again:
        jal r15, 0
        put r1
        sb r1, r7, 0
        addi r7, r7, 1
        get r1
        bne r1, r0, again
        exit r0
    """
    ROUTINE = "andi r2, r1, 4\nlui r3, 0\nadd r3, r3, r2\nlw r3, r3, 0\njalr r0, r3, 0\naddi r1, r1, 1\njalr r0, r15, 0\nxor r1, r1, r2\njalr r0, r15, 0"

    def linked(self):
        main = ("main", tuple(assemble(self.MAIN)), False, True, ((0, "start"),), ((0, "high", "buffer"), (4, "low", "buffer"), (12, "jal", "pick")))
        exports = ((0, "pick"), (20, "more"), (28, "less"))
        routine = ("routine", tuple(assemble(self.ROUTINE)), False, True, exports, ((4, "high", "ways"), (12, "low", "ways")))
        ways = ("ways", (0, 0), False, False, ((0, "ways"),), ((0, "word", "more"), (4, "word", "less")))
        buffer = ("buffer", (0,) * 4, True, False, ((0, "buffer"),), ())
        return link((main, routine, ways, buffer))

    def test_a_program(self):
        image = self.linked()
        out, end, _ = run(image, [1, 4, 7, 8, 0], fuel=1000)
        self.assertEqual((out, end), ([2, 0, 3, 9], ("exit", 0)))
        lines = [line.partition(": ")[2] for line in show_code(image, 4096, 10)]
        self.assertEqual(tuple(assemble("\n".join(lines))), tuple(assemble("\n".join(show_instruction_lines(image, 4096, 10)))))
        image = unpack_image(pack_image(image))
        self.assertEqual(image, self.linked())
        for script in ([], [("copies", -1), ("join", -1), ("known", -1), ("reuse", -1), ("dead", -1), ("drop", -1), ("order", -1), ("weave", -1)]):
            for whole in (False, True):
                book, paper = rewrite(image, script, whole=whole)
                self.assertIs(check(image, book, paper), True)
                book = unpack(pack(book))
                for data in ([1, 4, 7, 8, 0], [0], [], list(range(1, 30))):
                    out, end, steps = run(image, data, fuel=1000)
                    self.assertEqual(run_book(image, book, data, fuel=8 * steps + 64)[:2], (out, end))

    def test_chance_images(self):
        for chance, image in chance_images(11000, 60):
            image = unpack_image(pack_image(image))
            book, paper = rewrite(image, [(chance.choice(WORDS), -1) for _ in range(5)])
            again = unpack(pack(book))
            self.assertEqual(again, book)
            self.assertIs(check(image, again, paper), True)
            for data in INPUTS:
                self.assertEqual(run_book(image, again, data, fuel=99), run_book(image, book, data, fuel=99))


def show_instruction_lines(image, address, count):
    return [show_instruction(instruction_at(image, address + 4 * k)) for k in range(count)]


class Books(Case):
    """Books, their lay and their bytes, held against books that images give."""

    def test_jumps_that_must_be_long(self):
        # Counters between a branch and its target stretch it beyond what a short one reaches.
        code = [("get", 1), ("bne", 1, 0, 8001), *[("put", 1), ("jal", 0, 1)] * 4000, ("exit", 1)]
        image = image_of(code)
        book, paper = rewrite(image, [("weave", 0), ("join", 10)])
        self.assertEqual(len(paper[2]), 1000)
        self.assertIs(check(image, book, paper), True)
        long_ones, places = lay(book)
        self.assertEqual(unpack(pack(book)), book)
        self.assertEqual((book[0][0][1], places[0]), ((("count", 0), ("do", ("get", 1), 0)), (0, 0)))
        self.assertEqual(word_at(long_ones, 12) >> 26, 45 + 1)
        self.assertEqual(word_at(lay(first_book(image)[0])[0], 8) >> 26, 51 + 1)
        for data in ([], [0], [1]):
            out, end, steps = run(image, data, fuel=20000)
            self.assertEqual(run_book(image, book, data, fuel=8 * steps + 64)[:2], (out, end))

    def test_packed_books_with_a_byte_changed(self):
        for chance, image in chance_images(12000, 12):
            book, _ = rewrite(image, [("copies", -1), ("weave", 2)])
            packed = pack(book)
            for _ in range(60):
                at = chance.randrange(len(packed))
                other = [*packed[:at], chance.randrange(256), *packed[at + 1:]]
                try:
                    found = unpack(other)
                except BookError:
                    continue
                self.assertEqual(pack(found), other)
                self.assertEqual(book_faults(found), [])
            for wrong in (packed[:-1], packed[:-4], packed + [0] * 4, [], None, packed[4:], tuple(packed)):
                self.assertRaises(BookError, unpack, wrong)

    def test_lines_and_ends_that_are_changed(self):
        for chance, image in chance_images(12100, 12):
            book, _ = rewrite(image, [("weave", 0)])
            label, body, end = chance.choice(book[0])
            for line in (("do", ("exit", 1), 0), ("do", ("jal", 0, 1), 0), ("li", 16, 0), ("li", 1, TOP + 1), ("count", 1000), ("count", True), (), None):
                blocks = tuple((label, (*body, line), end) if block[0] == label else block for block in book[0])
                self.assertEqual(book_faults((blocks, *book[1:])), [(label, "line")])
            for wrong in (("go",), ("through", 1, 8192, 0, 0), ("exit", 16), ("trap", "none", 0), ("if", "add", 1, 2, label, label), None, ("go", True)):
                blocks = tuple((label, body, wrong) if block[0] == label else block for block in book[0])
                self.assertEqual(book_faults((blocks, *book[1:])), [(label, "end")])

    def test_a_run_step_by_step(self):
        image = image_of([("lw", 1, 0, 66), ("exit", 0)], data_segment(64, (0,) * 4))
        book, _ = first_book(image)
        self.assertEqual(last_of_book(image, book, [], fuel=5), ((0,) * 16, 0, 0, (image[0][0][1], (0,) * 4), 0, (), (), ("trap", "load", 0)))


def word_at(code, at):
    return int.from_bytes(bytes(code[at:at + 4]), "little")


class Samples(unittest.TestCase):
    def test_the_samples_are_of_many_kinds(self):
        ends = Counter()
        for _, image in chance_images(9000, 500):
            for found in INPUTS:
                end = run(image, found, fuel=FUEL)[1]
                ends[end[:2] if end[0] == "trap" else end[0]] += 1
        for kind in ("exit", "none", ("trap", "load"), ("trap", "store"), ("trap", "fetch"), ("trap", "illegal")):
            self.assertGreater(ends[kind], 20, kind)
        self.assertEqual(len(MAKERS), 3)
        self.assertEqual(constants(1)[0], 4096)


if __name__ == "__main__":
    unittest.main()
