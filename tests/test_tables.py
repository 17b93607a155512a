import unittest

from helpers import bytes_of, constant_segment, data_segment, facts_of, image_of, row, span
from restitch.holding import plain
from restitch.solve import solve
from restitch.tables import jump_tables

CODE = [("get", 1), ("andi", 1, 1, 4), ("lw", 2, 1, 32), ("jalr", 0, 2, 0), 0, 0, ("exit", 1), ("exit", 0)]


class Tables(unittest.TestCase):
    def of(self, *others, code=CODE):
        image = image_of(code, *others)
        return jump_tables(image, solve(image))

    def read(self, instruction, fact, *others):
        """The tables of one instruction at 0, with a fact of r1."""
        image = image_of([instruction, ("exit", 0), ("exit", 0)], *others)
        return jump_tables(image, ((0, facts_of(r1=fact)),))

    def test_the_example(self):
        self.assertEqual(self.of(constant_segment(32, bytes_of([24, 28]))), [(8, ((32, 24), (36, 28)))])
        self.assertEqual(self.of(constant_segment(32, bytes_of([28, 24]))), [(8, ((32, 28), (36, 24)))])
        self.assertEqual(self.of(constant_segment(32, bytes_of([24, 24]))), [(8, ((32, 24), (36, 24)))])

    def test_words_that_are_no_places(self):
        for words in ([24, 25], [24, 32], [2 ** 32 - 4, 24], [0, 36]):
            self.assertEqual(self.of(constant_segment(32, bytes_of(words))), [])

    def test_a_segment_that_is_writable(self):
        self.assertEqual(self.of(data_segment(32, bytes_of([24, 28]))), [])
        self.assertEqual(self.of(constant_segment(32, bytes_of([24])), data_segment(36, bytes_of([28]))), [])

    def test_two_constant_segments(self):
        self.assertEqual(self.of(constant_segment(32, bytes_of([24])), constant_segment(36, bytes_of([28]))), [
            (8, ((32, 24), (36, 28))),
        ])

    def test_a_table_in_the_code(self):
        code = [("get", 1), ("andi", 1, 1, 4), ("lw", 2, 1, 16), ("jalr", 0, 2, 0), 24, 28, ("exit", 1), ("exit", 0)]
        self.assertEqual(self.of(code=code), [(8, ((16, 24), (20, 28)))])

    def test_rows_of_one_word_and_other_facts(self):
        constant = constant_segment(64, bytes_of([0, 4, 8]))
        self.assertEqual(self.read(("lw", 2, 1, 0), row(64), constant), [])
        self.assertEqual(self.read(("lw", 2, 1, 0), None, constant), [])
        self.assertEqual(self.read(("lw", 2, 1, 0), span(64, 68), constant), [])
        self.assertEqual(self.read(("lw", 2, 1, 0), row(64, 68), constant), [(0, ((64, 0), (68, 4)))])
        self.assertEqual(self.read(("lw", 2, 1, 0), row(64, 68, 72), constant), [(0, ((64, 0), (68, 4), (72, 8)))])

    def test_addresses_outside(self):
        constant = constant_segment(64, (0,) * 12)
        for fact in (row(60, 64), row(72, 76), row(64, 66), row(65, 69), row(64, 73)):
            self.assertEqual(self.read(("lw", 2, 1, 0), fact, constant), [])

    def test_words_that_are_writable_although_their_facts_are_a_row(self):
        words = bytes_of([0, 4])
        self.assertEqual(self.read(("lw", 2, 1, 0), row(64, 68), data_segment(64, words)), [])
        others = constant_segment(60, (0,) * 4), data_segment(64, words)
        self.assertEqual(self.read(("lw", 2, 1, 0), row(60, 64), *others), [])

    def test_words_of_four_bytes(self):
        high = 2 ** 31 + 64
        image = image_of([("lw", 2, 1, 0), ("exit", 0)], constant_segment(0, bytes_of([high, high + 4])), address=high)
        rows = ((0, high), (4, high + 4))
        self.assertEqual(jump_tables(image, ((high, facts_of(r1=row(0, 4))),)), [(high, rows)])

    def test_addresses_that_wrap(self):
        constant = constant_segment(64, bytes_of([4, 8]))
        self.assertEqual(self.read(("lw", 2, 1, 68), row(0, 2 ** 32 - 4), constant), [(0, ((64, 4), (68, 8)))])

    def test_other_ops(self):
        constant = constant_segment(64, bytes_of([0, 0, 0]))
        for op in ("lb", "lbu", "sw", "addi", "jalr"):
            self.assertEqual(self.read((op, 2, 1, 0), row(64, 68), constant), [])
        self.assertEqual(self.read(0, row(64, 68), constant), [])

    def test_several_readers_ascend(self):
        constant = constant_segment(64, bytes_of([0, 4]))
        image = image_of([("lw", 2, 1, 0), ("lw", 3, 1, 0), ("exit", 0)], constant)
        rows = ((64, 0), (68, 4))
        table = ((0, facts_of(r1=row(64, 68))), (4, facts_of(r1=row(64, 68))))
        self.assertEqual(jump_tables(image, table), [(0, rows), (4, rows)])
        self.assertEqual(jump_tables(image, plain(image)), [])


if __name__ == "__main__":
    unittest.main()
