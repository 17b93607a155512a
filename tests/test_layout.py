import itertools
import random
import unittest

from helpers import TOP, bytes_of
from restitch.book import book_faults
from restitch.codes import encode
from restitch.errors import BookError
from restitch.layout import lay, pack, unpack

BRANCHES = ("beq", "bne", "blt", "bge", "bltu", "bgeu")
LI = ("li", 0, 0)
EXIT = ("exit", 0)


def words_of(code):
    return [int.from_bytes(bytes(code[at:at + 4]), "little") for at in range(0, len(code), 4)]


def filler(words):
    """A body that takes so many words."""
    return (LI,) * (words // 2) + (("count", 0),) * (words % 2)


def body_size(body):
    return sum(1 if line[0] == "count" else 2 for line in body)


def plan_of(book):
    """For each block the number of its words that are no jumps, and the targets of its jumps."""
    blocks = book[0]
    plan = []
    for at, (_, body, end) in enumerate(blocks):
        following = blocks[at + 1][0] if at + 1 < len(blocks) else None
        jumps = []
        if end[0] == "go" and (end[1] != following or not body):
            jumps = [("go", end[1])]
        if end[0] == "if":
            jumps = [("if", end[4])] + ([("go", end[5])] if end[5] != following else [])
        plan.append((body_size(body) + {"exit": 1, "through": 2, "trap": 2}.get(end[0], 0), jumps))
    return plan


def laid_with(book, longs):
    """The offsets in words, and whether each jump may be short, if these jumps are long."""
    starts, jumps, at, k = {}, [], 0, 0
    for (label, _, _), (size, targets) in zip(book[0], plan_of(book)):
        starts[label] = at
        at += size
        for kind, target in targets:
            jumps.append((at, kind, target))
            at += 2 if longs[k] else 1
            k += 1
    half = {"go": 32768, "if": 8192}
    reach = [-half[kind] <= starts[target] - place < half[kind] for place, kind, target in jumps]
    return starts, reach, at


def wanted_lay(book):
    """The lay by the plainest way: make jumps long until all that are short reach their target."""
    longs = [False] * sum(len(jumps) for _, jumps in plan_of(book))
    while True:
        starts, reach, size = laid_with(book, longs)
        more = [long or not near for long, near in zip(longs, reach)]
        if more == longs:
            return starts, size, longs
        longs = more


class Lines(unittest.TestCase):
    def words(self, *lines, end=EXIT):
        code, places = lay((((5, lines, end),), 5, ()))
        self.assertIsInstance(code, list)
        self.assertEqual(places, ((5, 0),))
        return words_of(code)

    def test_lines(self):
        self.assertEqual(self.words(("do", ("add", 1, 2, 3), 77)), [encode(("add", 1, 2, 3)), 77, encode(EXIT)])
        self.assertEqual(self.words(("do", ("sw", 15, 0, -1), TOP)), [encode(("sw", 15, 0, -1)), TOP, encode(EXIT)])
        self.assertEqual(self.words(("li", 15, TOP)), [63 * 2 ** 26 + 15, TOP, encode(EXIT)])
        self.assertEqual(self.words(("count", 999), ("count", 0)), [62 * 2 ** 26 + 999, 62 * 2 ** 26, encode(EXIT)])
        self.assertEqual(lay((((5, (LI,), EXIT),), 5, ()))[0], list(bytes_of([63 * 2 ** 26, 0, 38 * 2 ** 26])))

    def test_ends(self):
        self.assertEqual(self.words(end=("exit", 15)), [encode(("exit", 15))])
        for k, word in enumerate(("fetch", "illegal", "load", "store")):
            self.assertEqual(self.words(end=("trap", word, TOP)), [60 * 2 ** 26 + k, TOP])
        self.assertEqual(self.words(end=("through", 3, -1, 15, 8)), [61 * 2 ** 26 + (15 << 22) + (3 << 18) + 16383, 8])
        self.assertEqual(self.words(end=("through", 15, 8191, 0, TOP)), [61 * 2 ** 26 + (15 << 18) + 8191, TOP])

    def test_a_go_to_itself(self):
        self.assertEqual(self.words(end=("go", 5)), [59 * 2 ** 26])
        self.assertEqual(self.words(("count", 0), end=("go", 5)), [62 * 2 ** 26, 59 * 2 ** 26 + 65535])

    def test_an_if_to_itself(self):
        for k, op in enumerate(BRANCHES):
            self.assertEqual(self.words(("count", 0), end=("if", op, 1, 15, 5, 5)), [
                62 * 2 ** 26, (51 + k) * 2 ** 26 + (1 << 22) + (15 << 18) + 16383, 59 * 2 ** 26 + 65534,
            ])


class Jumps(unittest.TestCase):
    def laid(self, *blocks):
        code, places = lay((blocks, blocks[0][0], ()))
        return words_of(code), dict(places)

    def test_places_ascend_by_label(self):
        book = (((7, (), EXIT), (2, (LI,), EXIT), (5, (), ("go", 7))), 7, ())
        self.assertEqual(lay(book)[1], ((2, 4), (5, 16), (7, 0)))

    def test_a_go_to_the_next_block(self):
        self.assertEqual(self.laid((0, (LI,), ("go", 1)), (1, (), EXIT))[1], {0: 0, 1: 8})
        # Without lines the block takes a word all the same.
        words, places = self.laid((0, (), ("go", 1)), (1, (), EXIT))
        self.assertEqual((words[0], places), (59 * 2 ** 26 + 1, {0: 0, 1: 4}))

    def test_an_if_whose_second_label_is_the_next_block(self):
        for body in ((), (LI,)):
            words, places = self.laid((0, body, ("if", "beq", 1, 2, 2, 1)), (1, (), EXIT), (2, (), EXIT))
            self.assertEqual(places[1], 4 * len(words) - 8)
            self.assertEqual(words[-3], 51 * 2 ** 26 + (1 << 22) + (2 << 18) + 2)

    def test_an_if_whose_first_label_is_the_next_block(self):
        words, places = self.laid((0, (), ("if", "bne", 1, 2, 1, 2)), (1, (), EXIT), (2, (), EXIT))
        self.assertEqual(words[:2], [52 * 2 ** 26 + (1 << 22) + (2 << 18) + 2, 59 * 2 ** 26 + 2])
        self.assertEqual(places, {0: 0, 1: 8, 2: 12})

    def test_the_last_block_has_no_next_one(self):
        words, _ = self.laid((0, (), EXIT), (1, (LI,), ("go", 0)))
        self.assertEqual(words[-1], 59 * 2 ** 26 + 65536 - 3)

    def test_a_go_forward_at_its_bound(self):
        for gap, long in ((32766, False), (32767, True)):
            words, places = self.laid((0, (LI,), ("go", 2)), (1, filler(gap - 1), EXIT), (2, (), EXIT))
            head = [58 * 2 ** 26, gap + 2] if long else [59 * 2 ** 26 + gap + 1]
            self.assertEqual(words[2:2 + len(head)], head)
            self.assertEqual(places[1], 8 + 4 * len(head))

    def test_a_go_backward_at_its_bound(self):
        for gap, long in ((32768, False), (32769, True)):
            words, _ = self.laid((0, filler(gap - 1), EXIT), (1, (), ("go", 0)))
            self.assertEqual(words[gap:], [58 * 2 ** 26, 2 ** 32 - gap] if long else [59 * 2 ** 26 + 65536 - gap])

    def test_an_if_forward_at_its_bound(self):
        for k, op in enumerate(BRANCHES):
            for gap, long in ((8190, False), (8191, True)):
                words, _ = self.laid((0, (), ("if", op, 3, 4, 2, 1)), (1, filler(gap - 1), EXIT), (2, (), EXIT))
                operands = (3 << 22) + (4 << 18)
                head = [(45 + k) * 2 ** 26 + operands, gap + 2] if long else [(51 + k) * 2 ** 26 + operands + gap + 1]
                self.assertEqual(words[:len(head)], head)

    def test_an_if_backward_at_its_bound(self):
        for k, op in enumerate(BRANCHES):
            for gap, long in ((8192, False), (8193, True)):
                words, _ = self.laid((0, filler(gap - 1), EXIT), (1, (), ("if", op, 3, 4, 0, 2)), (2, (), EXIT))
                operands = (3 << 22) + (4 << 18)
                head = [(45 + k) * 2 ** 26 + operands, 2 ** 32 - gap] if long else [(51 + k) * 2 ** 26 + operands + 16384 - gap]
                self.assertEqual(words[gap:-1], head)

    def test_a_jump_that_becomes_long_because_another_one_did(self):
        # The if of block 0 just reaches block 3, unless the one of block 1 takes two words.
        for far, longs in ((8188, (False, False)), (8190, (True, True))):
            words, _ = self.laid(
                (0, (), ("if", "beq", 0, 0, 3, 1)), (1, (), ("if", "bne", 0, 0, 4, 2)), (2, filler(8188), EXIT),
                (3, filler(far - 8188), EXIT), (4, (), EXIT),
            )
            self.assertEqual([words[0] >> 26, words[1 + longs[0]] >> 26], [45 if longs[0] else 51, 46 if longs[1] else 52])

    def check_against_the_plain_way(self, book):
        code, places = lay(book)
        starts, size, longs = wanted_lay(book)
        self.assertEqual(len(code), 4 * size)
        self.assertEqual(places, tuple(sorted((label, 4 * at) for label, at in starts.items())))
        return longs

    def test_chains_of_jumps(self):
        # Each block's jump lacks a word to its target as soon as the next one's is long.
        for forward in (True, False):
            blocks = []
            for k in range(40):
                target = k + 5 if forward else k - 5
                end = ("if", "beq", 0, 0, target, k + 1) if 0 <= target < 40 else ("exit", 0)
                blocks.append((k, filler(1637 if k % 5 else 1638), end))
            end = ("if", "beq", 0, 0, 0, 39)
            blocks[20] = (20, blocks[20][1], end)
            blocks.append((40, (), ("if", "beq", 0, 0, 0, 0)))
            longs = self.check_against_the_plain_way((tuple(blocks), 0, ()))
            self.assertIn(True, longs)

    def test_a_long_chain_of_jumps(self):
        # 4095 jumps from the last ones on are long, and each one in front of them becomes so in its turn.
        blocks = [(k, (), ("if", "beq", 0, 0, k + 4097, k + 1)) for k in range(9000)]
        blocks += [(k, (), ("if", "beq", 0, 0, 0, k + 1)) for k in range(9000, 14000)]
        blocks.append((14000, (), EXIT))
        code, places = lay((tuple(blocks), 0, ()))
        self.assertEqual(places[14000][1], 8 * 14000)
        self.assertEqual(len(code), 8 * 14000 + 4)

    def test_random_books(self):
        chance = random.Random(2)
        for _ in range(60):
            count = chance.randint(1, 30)
            blocks = []
            for label in range(count):
                body = filler(chance.choice((0, 0, 1, 2, 300, 2000, 4000)))
                one, other = chance.randrange(count), chance.randrange(count)
                blocks.append((label, body, chance.choice((
                    ("go", one), ("if", chance.choice(BRANCHES), 1, 2, one, other), ("if", "beq", 1, 2, one, min(label + 1, count - 1)),
                    ("go", min(label + 1, count - 1)), EXIT, ("through", 1, 2, 3, 4), ("trap", "load", 8),
                ))))
            chance.shuffle(blocks)
            book = (tuple(blocks), 0, ())
            self.check_against_the_plain_way(book)
            self.assertEqual(unpack(pack(book)), book)

    def test_the_fewest_bytes(self):
        chance = random.Random(4)
        for _ in range(40):
            sizes = [chance.choice((0, 1, 4093, 4094, 4095, 4096, 8188)) for _ in range(6)]
            blocks = [(k, filler(size), ("if", "beq", 0, 0, chance.randrange(6), (k + 1) % 6)) for k, size in enumerate(sizes)]
            book = (tuple(blocks), 0, ())
            jumps = sum(len(jumps) for _, jumps in plan_of(book))
            best = []
            for longs in itertools.product((False, True), repeat=jumps):
                _, reach, size = laid_with(book, longs)
                if all(long or near for long, near in zip(longs, reach)):
                    best.append(size)
            self.assertEqual(len(lay(book)[0]), 4 * min(best))


BOOK = (
    (
        (3, (("do", ("addi", 1, 0, -1), 64), ("li", 2, TOP), ("count", 7)), ("go", 0)),
        (0, (), ("if", "bltu", 1, 2, 9, 5)),
        (5, (("do", ("lw", 1, 2, 4), 68),), ("through", 1, 4, 15, 72)),
        (9, (("count", 0),), ("trap", "illegal", 80)),
        (2 ** 31 - 1, (("do", ("get", 3), 84),), ("if", "bne", 3, 0, 3, 0)),
        (8, (), ("exit", 3)),
        (7, (), ("go", 7)),
    ),
    3, ((64, 3), (68, 5), (80, 9), (TOP, 3)),
)


class Pack(unittest.TestCase):
    def test_the_words(self):
        book = (((4, (LI,), ("go", 2)), (2, (), ("exit", 1))), 4, ((0, 2), (8, 4)))
        code = [63 * 2 ** 26, 0, encode(("exit", 1))]
        self.assertEqual(pack(book), list(bytes_of([2, 2, 3, 4, 0, 2, 8, 4, 4, 0, 2, 8, *code])))

    def test_there_and_back(self):
        self.assertEqual(book_faults(BOOK), [])
        for book in (
            BOOK, (((0, (), EXIT),), 0, ()), (((0, (), ("go", 0)),), 0, ((5, 0),)), (((0, (LI,), ("go", 0)),), 0, ()),
            (((0, (), ("go", 1)), (1, (), ("go", 0))), 1, ()), (((0, (LI,), ("go", 1)), (1, (LI,), ("go", 0))), 1, ()),
            (((0, (), ("if", "beq", 0, 0, 1, 1)), (1, (), ("if", "beq", 0, 0, 1, 1))), 1, ()),
            (((0, (), ("if", "beq", 0, 0, 1, 0)), (1, filler(9000), ("if", "beq", 0, 0, 0, 0))), 1, ()),
            (((0, (), ("go", 2)), (1, filler(40000), ("go", 0)), (2, (), EXIT)), 1, ()),
        ):
            data = pack(book)
            found = unpack(data)
            self.assertEqual(found, book)
            self.assertEqual(data, pack(book))

    def test_each_line_and_each_end(self):
        instructions = (
            ("add", 1, 2, 3), ("remu", 15, 15, 15), ("addi", 0, 1, -8192), ("slti", 1, 0, 8191), ("lui", 7, 2 ** 18 - 1),
            ("lw", 1, 2, 3), ("lb", 1, 2, 3), ("lbu", 1, 2, 3), ("sw", 1, 2, -3), ("sb", 1, 2, 3), ("get", 15), ("put", 0),
        )
        body = tuple(("do", instruction, 4 * k) for k, instruction in enumerate(instructions))
        ends = (
            ("go", 0), ("go", 6), *[("if", op, 15, 1, 2, 3) for op in BRANCHES], ("through", 15, -8192, 0, 0), ("exit", 15),
            *[("trap", word, TOP) for word in ("fetch", "illegal", "load", "store")],
        )
        blocks = tuple((label, body if label % 2 else (), end) for label, end in enumerate(ends))
        self.assertEqual(unpack(pack((blocks, 0, ()))), (blocks, 0, ()))

    def test_jumps_at_their_bounds(self):
        for gap in (8189, 8190, 8191, 8192, 8193, 32765, 32766, 32767, 32768, 32769):
            for end in (("go", 2), ("if", "bge", 1, 2, 2, 1), ("if", "bge", 1, 2, 1, 2)):
                book = (((0, (LI,), end), (1, filler(gap - 1), EXIT), (2, (), EXIT)), 0, ())
                self.assertEqual(unpack(pack(book)), book)
            for end in (("go", 0), ("if", "bge", 1, 2, 0, 2), ("if", "bge", 1, 2, 2, 0), ("if", "bge", 1, 2, 0, 0)):
                book = (((0, filler(gap - 1), EXIT), (1, (), end), (2, (), EXIT)), 0, ())
                self.assertEqual(unpack(pack(book)), book)

    def test_arguments_stay_as_they_were(self):
        data = pack(BOOK)
        kept = list(data)
        unpack(data)
        self.assertEqual(data, kept)

    def test_a_large_book(self):
        body = (("do", ("addi", 1, 1, 1), 4),) * 5
        blocks = tuple((label, body, ("if", "bne", 1, 2, (label * 7919) % 20000, 0)) for label in range(20000))
        book = (blocks, 0, tuple((4 * label, label) for label in range(20000)))
        self.assertEqual(unpack(pack(book)), book)


class Wrong(unittest.TestCase):
    def refused(self, data):
        with self.assertRaises(BookError):
            unpack(data)

    def test_each_word_changed(self):
        data = pack(BOOK)
        words = words_of(data)
        taken = 0
        for at in range(len(words)):
            near = [words[at] + k for k in (-4, -2, -1, 1, 2, 4)] + [words[at] ^ (1 << k) for k in range(32)]
            for word in (*near, 0, 1, TOP, 2 ** 31, len(words), 2 * len(words)):
                if word == words[at] or not 0 <= word <= TOP:
                    continue
                other = list(bytes_of([*words[:at], word, *words[at + 1:]]))
                try:
                    book = unpack(other)
                except BookError:
                    continue
                taken += 1
                self.assertEqual(book_faults(book), [])
                self.assertEqual(pack(book), other)
        self.assertGreater(taken, 100)

    def test_data_that_is_cut_or_longer(self):
        data = pack(BOOK)
        for length in range(len(data)):
            self.refused(data[:length])
        for more in ([0], [0] * 4, data[-4:], data):
            self.refused(data + more)
            self.refused(more + data)

    def test_values_that_are_no_bytes(self):
        data = pack(BOOK)
        for value in (256, -1, None, "0", True, False, (0,), 2 ** 40):
            for at in (0, 5, len(data) - 1):
                self.refused([*data[:at], value, *data[at + 1:]])

    def test_headers_of_large_numbers(self):
        for header in ((TOP, TOP, TOP, 0), (0, 0, 0, 0), (1, 0, 0, 0), (0, 1, 0, 0), (2 ** 31, 2 ** 31, 0, 0)):
            self.refused(list(bytes_of(header)))
        self.refused([])

    def packed(self, marks, code, entry=0):
        return list(bytes_of([len(marks), 0, len(code), entry, *[word for mark in marks for word in mark], *code]))

    def test_offsets(self):
        code = [62 * 2 ** 26, encode(EXIT), encode(EXIT)]
        self.assertEqual(unpack(self.packed([(0, 0), (1, 8)], code))[0][1], (1, (), EXIT))
        for first, second in ((0, 4), (0, 0), (4, 8), (0, 12), (0, 16), (8, 0), (0, 9), (1, 8), (0, 2 ** 32 - 4)):
            self.refused(self.packed([(0, first), (1, second)], code))

    def test_code_that_is_none(self):
        go = 59 * 2 ** 26
        for code in (
            [0], [57 * 2 ** 26], [encode(("jal", 0, 0))], [encode(("beq", 0, 0, 0))], [encode(("jalr", 0, 0, 0))],
            [encode(("add", 1, 2, 3))], [encode(("add", 1, 2, 3)), 0], [62 * 2 ** 26], [62 * 2 ** 26 + 1000, encode(EXIT)],
            [63 * 2 ** 26, 0], [63 * 2 ** 26 + 16, 0, encode(EXIT)], [63 * 2 ** 26], [61 * 2 ** 26], [60 * 2 ** 26],
            [60 * 2 ** 26 + 4, 0], [61 * 2 ** 26 + (1 << 14), 0], [encode(EXIT) + 1], [encode(EXIT), encode(EXIT)],
            [58 * 2 ** 26], [58 * 2 ** 26, 0], [58 * 2 ** 26 + 1, 0], [go + 1], [go + 65535], [go + 65536], [51 * 2 ** 26],
            [51 * 2 ** 26, go + 1], [51 * 2 ** 26, encode(EXIT)], [51 * 2 ** 26, 58 * 2 ** 26, TOP],
            [45 * 2 ** 26, 0, go + 65534], [51 * 2 ** 26 + (1 << 14), go + 65535], [encode(("beq", 1, 2, 3)), 0, encode(EXIT)],
        ):
            self.refused(self.packed([(0, 0)], code))
        for code in ([go], [51 * 2 ** 26, go + 65535], [62 * 2 ** 26 + 999, encode(EXIT)], [61 * 2 ** 26, 0], [60 * 2 ** 26 + 3, 0]):
            self.assertEqual(pack(unpack(self.packed([(0, 0)], code))), self.packed([(0, 0)], code))

    def test_a_jump_that_need_not_be_there(self):
        go = 59 * 2 ** 26
        self.refused(self.packed([(0, 0), (1, 8)], [62 * 2 ** 26, go + 1, encode(EXIT)]))
        self.refused(self.packed([(0, 0), (1, 8)], [51 * 2 ** 26, go + 1, encode(EXIT)]))
        self.refused(self.packed([(0, 0), (1, 4)], [62 * 2 ** 26]))
        self.assertEqual(unpack(self.packed([(0, 0), (1, 4)], [go + 1, encode(EXIT)]))[0][0], (0, (), ("go", 1)))

    def test_faults_of_books(self):
        code = [encode(EXIT), encode(EXIT)]
        self.refused(self.packed([(0, 0), (0, 4)], code))
        self.refused(self.packed([(0, 0), (2 ** 31, 4)], code))
        self.refused(self.packed([(0, 0), (1, 4)], code, entry=2))
        good = list(bytes_of([1, 2, 1, 0, 4, 0, 8, 0, 0, 0, encode(EXIT)]))
        self.assertEqual(unpack(good), (((0, (), EXIT),), 0, ((4, 0), (8, 0))))
        self.refused(list(bytes_of([1, 2, 1, 0, 8, 0, 4, 0, 0, 0, encode(EXIT)])))
        self.refused(list(bytes_of([1, 2, 1, 0, 8, 0, 8, 0, 0, 0, encode(EXIT)])))
        self.refused(list(bytes_of([1, 2, 1, 0, 4, 0, 8, 1, 0, 0, encode(EXIT)])))


if __name__ == "__main__":
    unittest.main()
