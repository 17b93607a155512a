import unittest

from helpers import TOP
from restitch.book import book_faults, targets_of_end
from restitch.codes import OPS

LAST = 2 ** 31 - 1
JUMPS = ("beq", "bne", "blt", "bge", "bltu", "bgeu", "jal", "jalr", "exit")
EXIT = ("exit", 0)
INSTRUCTIONS = [
    *[(op, 0, 15, 1) for op in OPS[:13]], *[(op, 15, 0, -8192) for op in OPS[13:21]], ("lui", 3, 2 ** 18 - 1),
    ("lw", 1, 2, 8191), ("lb", 1, 2, -1), ("lbu", 0, 0, 0), ("sw", 1, 2, 3), ("sb", 15, 15, 0), ("get", 0), ("put", 15),
]
# A number of each kind that is none, with tuples and texts that look like one.
NO_NUMBERS = (None, True, False, "", "0", (), (0,), [0])


def with_line(line):
    return (((0, (line,), EXIT),), 0, ())


def with_end(end):
    return (((0, (), end), (1, (), EXIT)), 0, ())


class Good(unittest.TestCase):
    def test_a_book_without_faults(self):
        blocks = (
            (0, tuple(("do", instruction, 4) for instruction in INSTRUCTIONS), ("go", 7)),
            (7, (("li", 0, 0), ("li", 15, TOP), ("count", 0), ("count", 999)), ("if", "bltu", 0, 15, 0, LAST)),
            (LAST, (), ("through", 15, -8192, 0, TOP)), (3, (), EXIT), (1, (), ("trap", "load", TOP)),
        )
        book = (blocks, 3, ((0, 7), (2, 7), (TOP, 0)))
        found = book_faults(book)
        self.assertEqual(found, [])
        self.assertIsInstance(found, list)

    def test_each_instruction_that_goes_on(self):
        self.assertEqual({instruction[0] for instruction in INSTRUCTIONS}, set(OPS) - set(JUMPS))
        for instruction in INSTRUCTIONS:
            self.assertEqual(book_faults(with_line(("do", instruction, TOP))), [])

    def test_each_end(self):
        for end in (
            ("go", 0), ("go", 1), *[("if", op, 0, 15, 1, 0) for op in JUMPS[:6]], ("through", 0, 8191, 15, 0), ("exit", 15),
            *[("trap", word, 0) for word in ("fetch", "illegal", "load", "store")],
        ):
            self.assertEqual(book_faults(with_end(end)), [], end)


class NoBooks(unittest.TestCase):
    def test_values_that_are_no_books(self):
        block = (0, (), EXIT)
        for value in (
            None, True, 0, -1, "", "abc", (), (0,), (None, None, None), ((block,), 0), ((block,), 0, (), ()),
            ([block], 0, ()), (block[0], 0, ()), ("abc", 0, ()), [(block,), 0, ()], (True, 0, ()),
        ):
            self.assertEqual(book_faults(value), [(-1, "line")], value)

    def test_blocks_that_are_none(self):
        good = (0, (), EXIT)
        for block in (
            None, 0, "abc", (), (1,), (1, ()), (1, (), EXIT, 0), ("1", (), EXIT), (None, (), EXIT), (True, (), EXIT),
            (False, (), EXIT), (1, None, EXIT), (1, "", EXIT), (1, 0, EXIT), (1, [], EXIT), ((1,), (), EXIT), [1, (), EXIT],
        ):
            self.assertEqual(book_faults(((good, block), 0, ())), [(-1, "line")], block)
            self.assertEqual(book_faults(((block, good), 0, ())), [(-1, "line")], block)

    def test_values_nested_deep(self):
        value = ()
        for _ in range(58):
            value = (value,)
            self.assertEqual(book_faults(value), [(-1, "line")])
            self.assertEqual(book_faults(((value, (0, (value,), value)), value, value)), [
                (-1, "entry"), (-1, "line"), (-1, "table"), (0, "end"), (0, "line"),
            ])


class Labels(unittest.TestCase):
    def test_bounds(self):
        for label in (0, 1, LAST):
            self.assertEqual(book_faults((((label, (), EXIT),), label, ())), [])
        for label in (-1, -5, 2 ** 31, 2 ** 32, 2 ** 70):
            self.assertEqual(book_faults((((0, (), EXIT), (label, (), EXIT)), 0, ())), [(-1, "label")])

    def test_a_label_that_an_earlier_block_has(self):
        blocks = ((0, (), EXIT), (5, (), EXIT), (0, (), EXIT), (5, (), EXIT), (5, (), EXIT))
        self.assertEqual(book_faults((blocks, 0, ())), [(0, "label"), (5, "label")])


class Lines(unittest.TestCase):
    def wrong(self, line):
        self.assertEqual(book_faults(with_line(line)), [(0, "line")], line)

    def test_values_that_are_no_lines(self):
        for line in (None, True, 0, "", "do", "count", (), ("do",), ("go", 0), ("none", 1), (0, 1, 2), (("do",), 1, 2), ["count", 1]):
            self.wrong(line)

    def test_do(self):
        for instruction in (
            ("beq", 1, 2, 3), ("bgeu", 1, 2, 3), ("jal", 1, 2), ("jalr", 1, 2, 3), ("exit", 1), ("nop",), (), None, 0, "get",
            ("get",), ("get", 1, 2), ("add", 1, 2), ("add", 1, 2, 3, 4), ["get", 1], (("get",), 1), (0, 1),
        ):
            self.wrong(("do", instruction, 0))
        for number in (-1, 16, 2 ** 32, *NO_NUMBERS):
            for instruction in (("get", number), ("add", number, 1, 1), ("add", 1, number, 1), ("sw", 1, number, 0)):
                self.wrong(("do", instruction, 0))
        for imm in (-8193, 8192, *NO_NUMBERS):
            self.wrong(("do", ("addi", 1, 2, imm), 0))
        for imm in (-1, 2 ** 18, *NO_NUMBERS):
            self.wrong(("do", ("lui", 1, imm), 0))
        for old in (-1, 2 ** 32, *NO_NUMBERS):
            self.wrong(("do", ("get", 1), old))
        self.wrong(("do", ("get", 1)))
        self.wrong(("do", ("get", 1), 0, 0))

    def test_li(self):
        for number in (-1, 16, *NO_NUMBERS):
            self.wrong(("li", number, 0))
        for word in (-1, 2 ** 32, *NO_NUMBERS):
            self.wrong(("li", 1, word))
        self.wrong(("li", 1))
        self.wrong(("li", 1, 2, 3))

    def test_count(self):
        for number in (-1, 1000, *NO_NUMBERS):
            self.wrong(("count", number))
        self.wrong(("count",))
        self.wrong(("count", 1, 2))

    def test_a_line_behind_others(self):
        body = (("count", 1), ("count", 2), ("count", 1000))
        self.assertEqual(book_faults((((4, body, EXIT),), 4, ())), [(4, "line")])


class Ends(unittest.TestCase):
    def wrong(self, end):
        self.assertEqual(book_faults(with_end(end)), [(0, "end")], end)

    def test_values_that_are_no_ends(self):
        for end in (None, True, 0, "", "go", (), ("go",), ("go", 0, 0), ("count", 0), ("lost", 0), (0, 0), (("go",), 0), ["go", 0]):
            self.wrong(end)

    def test_go(self):
        for label in (-1, 2 ** 31, *NO_NUMBERS):
            self.wrong(("go", label))

    def test_if(self):
        for op in ("add", "jal", "beqz", "", None, 0, ("beq",)):
            self.wrong(("if", op, 0, 0, 0, 0))
        for number in (-1, 16, *NO_NUMBERS):
            self.wrong(("if", "beq", number, 0, 0, 0))
            self.wrong(("if", "beq", 0, number, 0, 0))
        for label in (-1, 2 ** 31, *NO_NUMBERS):
            self.wrong(("if", "beq", 0, 0, label, 0))
            self.wrong(("if", "beq", 0, 0, 0, label))
        self.wrong(("if", "beq", 0, 0, 0))

    def test_through(self):
        for number in (-1, 16, *NO_NUMBERS):
            self.wrong(("through", number, 0, 0, 0))
            self.wrong(("through", 0, 0, number, 0))
        for imm in (-8193, 8192, *NO_NUMBERS):
            self.wrong(("through", 0, imm, 0, 0))
        for word in (-1, 2 ** 32, *NO_NUMBERS):
            self.wrong(("through", 0, 0, 0, word))
        self.wrong(("through", 0, 0, 0))

    def test_exit_and_trap(self):
        for number in (-1, 16, *NO_NUMBERS):
            self.wrong(("exit", number))
        for word in ("lost", "exit", "", None, 0, ("load",)):
            self.wrong(("trap", word, 0))
        for old in (-1, 2 ** 32, *NO_NUMBERS):
            self.wrong(("trap", "load", old))

    def test_labels_that_no_block_has(self):
        for end in (("go", 2), ("if", "beq", 0, 0, 2, 0), ("if", "beq", 0, 0, 0, 2), ("go", LAST)):
            self.assertEqual(book_faults(with_end(end)), [(0, "target")], end)


class Others(unittest.TestCase):
    BLOCKS = ((0, (), EXIT), (5, (), EXIT))

    def test_the_entry(self):
        for entry in (1, -1, LAST, 2 ** 31, None, True, False, "0", (0,), 2 ** 70):
            self.assertEqual(book_faults((self.BLOCKS, entry, ())), [(-1, "entry")])
        self.assertEqual(book_faults(((), 0, ())), [(-1, "entry")])

    def test_true_is_no_label_of_a_block_1(self):
        blocks = ((1, (), EXIT),)
        self.assertEqual(book_faults((blocks, True, ())), [(-1, "entry")])
        self.assertEqual(book_faults((blocks, 1, ((0, True),))), [(-1, "table")])
        self.assertEqual(book_faults((((1, (), ("go", True)),), 1, ())), [(1, "end")])

    def test_the_table(self):
        for table in (
            None, 0, "", "ab", [], ((0, 0), (0, 5)), ((4, 0), (0, 0)), ((0, 1),), ((0, -1),), ((-1, 0),), ((2 ** 32, 0),),
            ((True, 0),), ((0, False),), ((0,),), ((0, 0, 0),), (0, 0), (None,), ("ab",), ([0, 0],), (("0", 0),), ((0, "0"),),
            ((0, 2 ** 31),),
        ):
            self.assertEqual(book_faults((self.BLOCKS, 0, table)), [(-1, "table")], table)

    def test_several_together(self):
        blocks = (
            (9, (("count", 1000),), ("go", 8)), (2 ** 31, (None, 0), None), (9, (), ("go", 9)), (4, (), ("exit", 16)),
            (9, (("count", -1),), ("go", 7)), None,
        )
        self.assertEqual(book_faults((blocks, 1, ((0, 1),))), [
            (-1, "entry"), (-1, "label"), (-1, "line"), (-1, "table"), (4, "end"), (9, "label"), (9, "line"), (9, "target"),
            (2 ** 31, "end"), (2 ** 31, "line"),
        ])

    def test_the_book_stays_as_it_was(self):
        book = (self.BLOCKS, 0, ((0, 5),))
        book_faults(book)
        self.assertEqual(book, (((0, (), EXIT), (5, (), EXIT)), 0, ((0, 5),)))

    def test_targets_of_end(self):
        for end, labels in (
            (("go", 3), [3]), (("if", "beq", 1, 2, 9, 4), [9, 4]), (("if", "beq", 1, 2, 4, 4), [4, 4]),
            (("through", 1, 2, 3, 4), []), (("exit", 1), []), (("trap", "load", 8), []),
        ):
            self.assertEqual(targets_of_end(end), labels)

    def test_a_large_book(self):
        body = (("do", ("addi", 1, 1, 1), 4),) * 5
        blocks = tuple((label, body, ("if", "bne", 1, 2, (label * 7) % 20000, 0)) for label in range(20000))
        table = tuple((4 * label, label) for label in range(20000))
        self.assertEqual(book_faults((blocks, 0, table)), [])
        self.assertEqual(book_faults((blocks[:-1], 0, table))[0], (-1, "table"))


if __name__ == "__main__":
    unittest.main()
