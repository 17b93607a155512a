import unittest

from helpers import ZERO, bytes_of, constant_segment, data_segment, facts_of, image_of
from samples import ALL, CALLS, COUNTING, ECHO, FIXED, INPUTS, NO_CODE, SWITCH, WILD, chance_images
from restitch.blocks import code_blocks
from restitch.book import book_faults
from restitch.checker import check
from restitch.first import first_book
from restitch.holding import plain
from restitch.layout import lay, pack, unpack
from restitch.machine import last_state, run
from restitch.runbook import last_of_book, run_book
from restitch.solve import solve


def do(instruction, old):
    return ("do", instruction, old)


def rows_of(*pairs):
    return tuple((label, address, ALL, steps) for label, (address, steps) in enumerate(pairs))


class Blocks(unittest.TestCase):
    def test_the_example(self):
        book, paper = first_book(ECHO)
        self.assertEqual(book, ((
            (0, (do(("get", 1), 64),), ("if", "beq", 1, 0, 2, 1)),
            (1, (do(("put", 1), 72),), ("go", 0)),
            (2, (), ("exit", 1)),
        ), 0, ()))
        self.assertEqual(paper, (solve(ECHO), rows_of((64, 2), (72, 2), (80, 1)), ()))

    def test_calls_and_returns(self):
        book, paper = first_book(CALLS)
        self.assertEqual(book, ((
            (0, (do(("get", 1), 0), ("li", 15, 8)), ("go", 3)),
            (1, (do(("put", 1), 8), ("li", 15, 16)), ("go", 3)),
            (2, (do(("put", 1), 16),), ("exit", 0)),
            (3, (do(("add", 1, 1, 1), 24),), ("through", 15, 0, 0, 0)),
        ), 0, ((8, 1), (16, 2))))
        self.assertEqual(paper, (solve(CALLS), rows_of((0, 2), (8, 2), (16, 2), (24, 2)), ()))

    def test_a_table_of_targets(self):
        book, _ = first_book(SWITCH)
        self.assertEqual(book[0][0], (0, (
            do(("get", 1), 0), do(("andi", 1, 1, 4), 4), do(("lw", 2, 1, 4096), 8),
        ), ("through", 2, 0, 0, 0)))
        self.assertEqual(book[2], ((16, 1), (24, 2)))

    def test_without_facts_each_place_is_a_target(self):
        book, paper = first_book(WILD)
        self.assertEqual(paper[0], plain(WILD))
        self.assertEqual(book[2], tuple((4 * k, k) for k in range(9)))
        self.assertEqual(paper[1], (*rows_of(*[(4 * k, 1) for k in range(9)]), (9, 36, ALL, 1)))
        self.assertEqual(book[0][3], (3, (), ("through", 2, 0, 3, 16)))
        self.assertEqual(book[0][7:], ((7, (), ("trap", "illegal", 28)), (8, (do(("get", 4), 32),), ("go", 9)), (9, (), ("trap", "fetch", 36))))

    def test_whole(self):
        book, paper = first_book(CALLS, whole=True)
        self.assertEqual(paper[0], plain(CALLS))
        self.assertEqual(len(book[0]), 8)
        self.assertEqual(book[2], tuple((4 * k, k) for k in range(8)))
        self.assertEqual(book[0][7], (7, (), ("through", 15, 0, 0, 0)))
        # Without a jump to anywhere only leaders begin blocks.
        book, paper = first_book(COUNTING, whole=True)
        self.assertEqual([row[1] for row in paper[1]], [0, 8, 20])
        self.assertEqual(book[2], ())

    def test_lui_is_a_word(self):
        book, _ = first_book(image_of([("lui", 1, 2 ** 18 - 1), ("lui", 0, 1), ("exit", 1)]))
        self.assertEqual(book[0][0][1], (("li", 1, 2 ** 32 - 2 ** 14), ("li", 0, 2 ** 14)))

    def test_an_entry_that_is_no_place(self):
        self.assertEqual(first_book(NO_CODE), ((((0, (), ("trap", "fetch", 2)),), 0, ()), ((), ((0, 2, ALL, 1),), ())))
        book, paper = first_book(NO_CODE, whole=True)
        self.assertEqual(book, (((0, (), ("trap", "fetch", 2)),), 0, ()))
        self.assertEqual(paper, (plain(NO_CODE), ((0, 2, ALL, 1),), ()))
        image = image_of([("jal", 0, 0)], entry=400)
        book, paper = first_book(image, whole=True)
        self.assertEqual(book, (((0, (), ("go", 0)), (1, (), ("trap", "fetch", 400))), 1, ()))

    def test_addresses_without_code_are_ascending_and_last(self):
        image = image_of([("get", 1), ("beq", 1, 0, 50), ("bne", 1, 2, -40), ("addi", 1, 1, 1)])
        book, paper = first_book(image)
        self.assertEqual(book[0][3:], ((3, (), ("trap", "fetch", 16)), (4, (), ("trap", "fetch", 204)), (5, (), ("trap", "fetch", 2 ** 32 - 152))))
        self.assertEqual([row[1:] for row in paper[1]], [
            (0, ALL, 2), (8, ALL, 1), (12, ALL, 1), (16, ALL, 1), (204, ALL, 1), (2 ** 32 - 152, ALL, 1),
        ])
        self.assertEqual([end for _, _, end in book[0][:3]], [("if", "beq", 1, 0, 4, 1), ("if", "bne", 1, 2, 5, 2), ("go", 3)])

    def test_a_decided_branch_is_go(self):
        image = image_of([("addi", 1, 0, 4), ("bne", 1, 0, 2), 0, ("beq", 2, 3, 2), ("exit", 0), ("bltu", 0, 1, -1), ("exit", 1)])
        book, paper = first_book(image)
        self.assertEqual(book[0], ((0, (do(("addi", 1, 0, 4), 0),), ("go", 1)), (1, (), ("go", 3)), (2, (), ("exit", 0)), (3, (), ("go", 2))))
        self.assertEqual([row[1] for row in paper[1]], [0, 12, 16, 20])
        whole, _ = first_book(image, whole=True)
        self.assertEqual([end for _, _, end in whole[0]], [
            ("go", 2), ("trap", "illegal", 8), ("if", "beq", 2, 3, 4, 3), ("exit", 0), ("if", "bltu", 0, 1, 3, 5), ("exit", 1),
        ])

    def test_jumps_to_one_target(self):
        image = image_of([("addi", 1, 0, 12), ("jalr", 2, 1, 4), 0, 0, ("jalr", 1, 1, 8), ("exit", 2)])
        book, paper = first_book(image)
        self.assertEqual(book[0], (
            (0, (do(("addi", 1, 0, 12), 0), ("li", 2, 8)), ("go", 1)), (1, (("li", 1, 20),), ("go", 2)), (2, (), ("exit", 2)),
        ))
        # A jump through a register may lead there, whatever the end of the block is.
        self.assertEqual(book[2], ((16, 1), (20, 2)))
        whole, _ = first_book(image, whole=True)
        self.assertEqual(whole[0][1], (1, (), ("through", 1, 4, 2, 8)))

    def test_a_word_of_a_block_that_is_jumped_to_without_facts(self):
        image = image_of([("get", 9), ("jalr", 0, 9, 0), ("exit", 3)])
        book, _ = first_book(image)
        self.assertEqual(book[0][1], (1, (), ("through", 9, 0, 0, 0)))
        image = image_of([("get", 9), ("jalr", 0, 0, 8), ("exit", 3), ("jalr", 0, 9, 0)])
        book, _ = first_book(image, whole=True)
        self.assertEqual(book[0][1], (1, (), ("go", 2)))

    def test_targets_that_are_no_places_are_no_entries(self):
        image = image_of([("get", 1), ("andi", 1, 1, 6), ("jalr", 0, 1, 8), ("exit", 0)])
        book, paper = first_book(image)
        self.assertEqual(book[2], ((8, 1), (12, 2)))
        self.assertEqual([row[1] for row in paper[1]], [0, 8, 12])

    def test_code_at_the_end_of_all_addresses(self):
        image = image_of([("get", 1), ("jal", 2, 0)], address=2 ** 32 - 8)
        book, _ = first_book(image)
        self.assertEqual(book[0], ((0, (do(("get", 1), 2 ** 32 - 8),), ("go", 1)), (1, (("li", 2, 0),), ("go", 1))))


class Promises(unittest.TestCase):
    def check_image(self, image, whole):
        book, paper = first_book(image, whole=whole)
        self.assertEqual(book_faults(book), [])
        self.assertIs(check(image, book, paper), True)
        heads = [head for head, _, _ in code_blocks(image, paper[0])]
        self.assertEqual([block[0] for block in book[0]], list(range(len(book[0]))))
        self.assertEqual([row[1] for row in paper[1]][:len(heads)], heads)
        self.assertEqual(paper[2], ())
        self.assertEqual(unpack(pack(book)), book)
        self.assertEqual([label for label, _ in lay(book)[1]], list(range(len(book[0]))))
        for data in INPUTS:
            out, end, steps = run(image, data, fuel=250)
            fuel = 2 * steps + 2
            found = run_book(image, book, data, fuel=fuel)
            if end == ("none",):
                self.assertEqual(found[1], end)
                self.assertEqual(found[0][:len(out)], out[:len(found[0])])
            else:
                self.assertEqual((found[0], found[1], found[3]), (out, end, []))
                self.assertEqual(last_of_book(image, book, data, fuel=fuel)[3], last_state(image, data, fuel=250)[2])

    def test_fixed_images(self):
        for image in FIXED:
            self.check_image(image, False)
            self.check_image(image, True)

    def test_chance_images(self):
        for chance, image in chance_images(1000, 200):
            self.check_image(image, chance.random() < 0.3)

    def test_the_facts_are_those_that_are_found(self):
        for _, image in chance_images(1500, 20):
            self.assertEqual(first_book(image)[1][0], solve(image))
            self.assertEqual(first_book(image, whole=True)[1][0], plain(image))

    def test_a_load_and_a_store_that_may_be_refused(self):
        code = [("get", 1), ("lw", 2, 1, 0), ("sb", 2, 1, 64), ("put", 2), ("exit", 0)]
        image = image_of(code, data_segment(64, (5, 0, 0, 0)))
        self.check_image(image, False)
        book, _ = first_book(image)
        self.assertEqual(run_book(image, book, [2], fuel=9)[1], ("trap", "load", 4))
        self.assertEqual(run_book(image, book, [8], fuel=9)[1], ("trap", "store", 8))

    def test_one_constant(self):
        image = image_of([("lw", 1, 0, 64), ("jalr", 0, 1, 0), 0, ("exit", 1)], constant_segment(64, bytes_of([12])))
        book, paper = first_book(image)
        self.assertEqual(book[0][0][2], ("go", 1))
        self.assertEqual(paper[0][1], (4, (ZERO, ("words", (12,)), *[ZERO] * 14)))
        self.assertNotEqual(paper[0][0][1], facts_of())


if __name__ == "__main__":
    unittest.main()
