import random
import unittest

from helpers import TOP, ZEROS, bytes_of, code_segment, constant_segment, image_of
from restitch.blocks import code_blocks, code_loops, ends_block, leaders
from restitch.codes import OPS
from restitch.holding import plain
from restitch.solve import solve
from restitch.ways import places, ways

JUMPS = ("beq", "bne", "blt", "bge", "bltu", "bgeu", "jal", "jalr")
# Reads bytes up to one of 1 to 3, and leaves through a table.
TABLE = image_of([
    ("get", 1), ("andi", 1, 1, 4), ("beq", 1, 0, 2), ("put", 1), ("lw", 2, 1, 64), ("jalr", 0, 2, 0), ("exit", 9),
    ("put", 2), ("jal", 0, -8), ("exit", 2), ("exit", 3),
], constant_segment(64, bytes_of([28, 36])))


class Ends(unittest.TestCase):
    def test_each_op(self):
        operands = {"add": (1, 2, 3), "lui": (1, 2), "jal": (1, 2), "get": (1,), "put": (1,), "exit": (1,)}
        for op in OPS:
            found = ends_block((op, *operands.get(op, (1, 2, 3))))
            self.assertIs(found, op in JUMPS or op == "exit", op)

    def test_words_that_are_illegal(self):
        self.assertIs(ends_block(None), True)


class Leaders(unittest.TestCase):
    def of(self, code, entry=0, address=0):
        image = image_of(code, address=address, entry=entry)
        return leaders(image, solve(image))

    def test_straight_code(self):
        self.assertEqual(self.of([("get", 1), ("put", 1), ("exit", 1)]), [0])
        self.assertEqual(self.of([("get", 1), ("put", 1), ("exit", 1)], entry=4), [4])

    def test_branches(self):
        self.assertEqual(self.of([("get", 1), ("beq", 1, 0, 3), ("put", 1), ("jal", 0, -3), ("exit", 1)]), [0, 8, 16])

    def test_a_branch_that_is_decided(self):
        # Nothing leads to the place behind it, so it is not in the table.
        self.assertEqual(self.of([("beq", 0, 0, 2), ("put", 1), ("exit", 1)]), [0, 8])
        self.assertEqual(self.of([("bne", 0, 0, 2), ("put", 1), ("exit", 1)]), [0, 4])
        # Where something else leads there, it is a leader although the branch does not go on there.
        self.assertEqual(self.of([
            ("get", 1), ("beq", 1, 0, 3), ("beq", 0, 0, 3), ("put", 1), ("jal", 0, -2), ("exit", 1),
        ]), [0, 8, 16, 20])
        self.assertEqual(self.of([
            ("get", 1), ("beq", 1, 0, 2), ("jal", 0, 2), ("put", 1), ("exit", 1),
        ]), [0, 8, 12, 16])

    def test_places_behind_jumps_that_are_in_the_table(self):
        code = [("jal", 0, 2), ("put", 1), ("exit", 1)]
        image = image_of(code)
        self.assertEqual(leaders(image, solve(image)), [0, 8])
        self.assertEqual(leaders(image, plain(image)), [0, 4, 8])

    def test_targets_of_places_that_no_run_reaches(self):
        image = image_of([("exit", 0), ("put", 1), ("jal", 0, -1), ("put", 2), ("exit", 2)])
        self.assertEqual(leaders(image, solve(image)), [0])
        self.assertEqual(leaders(image, plain(image)), [0, 4, 12])

    def test_targets_that_are_no_places(self):
        self.assertEqual(self.of([("get", 1), ("beq", 1, 0, 9), ("exit", 0)]), [0, 8])
        self.assertEqual(self.of([("jal", 0, -2)]), [0])

    def test_a_jump_through_a_table(self):
        self.assertEqual(leaders(TABLE, solve(TABLE)), [0, 12, 16, 28, 36])

    def test_calls_and_returns(self):
        self.assertEqual(self.of([
            ("jal", 15, 4), ("put", 1), ("jal", 15, 2), ("exit", 0), ("addi", 1, 1, 1), ("jalr", 0, 15, 0),
        ]), [0, 4, 12, 16])

    def test_a_jump_of_any_target(self):
        image = image_of([("get", 1), ("put", 1), ("jalr", 0, 1, 0), ("put", 1), ("exit", 1)])
        self.assertEqual(leaders(image, solve(image)), [0, 4, 8, 12, 16])

    def test_an_entry_that_is_no_place(self):
        image = image_of([("jal", 0, 1), ("exit", 0)], entry=2)
        self.assertEqual(leaders(image, ()), [])
        self.assertEqual(leaders(image, plain(image)), [4])

    def test_the_place_behind_the_last_address(self):
        image = (
            (code_segment(0, [("exit", 0)]), code_segment(2 ** 32 - 4, [("beq", 1, 2, -1)])), 2 ** 32 - 4, (),
        )
        self.assertEqual(leaders(image, plain(image)), [0, 2 ** 32 - 4])


class Blocks(unittest.TestCase):
    def of(self, code, entry=0, address=0):
        image = image_of(code, address=address, entry=entry)
        return code_blocks(image, solve(image))

    def test_branches_and_jumps(self):
        self.assertEqual(self.of([("get", 1), ("beq", 1, 0, 3), ("put", 1), ("jal", 0, -3), ("exit", 1)]), [
            (0, 2, (8, 16)), (8, 2, (0,)), (16, 1, ()),
        ])

    def test_blocks_in_front_of_a_leader(self):
        self.assertEqual(self.of([("get", 1), ("put", 1), ("put", 1), ("beq", 1, 0, -2), ("exit", 1)]), [
            (0, 1, (4,)), (4, 3, (4, 16)), (16, 1, ()),
        ])

    def test_blocks_where_the_table_ends(self):
        self.assertEqual(self.of([("get", 1), ("put", 1)]), [(0, 2, ())])
        self.assertEqual(self.of([("get", 1), ("put", 1)], entry=4), [(4, 1, ())])
        image = (
            (code_segment(0, [("get", 1)]), constant_segment(4, bytes_of([0])), code_segment(8, [("get", 1)])), 0, (),
        )
        self.assertEqual(code_blocks(image, plain(image)), [(0, 1, ())])

    def test_two_segments_that_touch(self):
        image = ((code_segment(0, [("get", 1)]), code_segment(4, [("put", 1), ("exit", 0)])), 0, ())
        self.assertEqual(code_blocks(image, solve(image)), [(0, 3, ())])

    def test_words_that_are_illegal(self):
        self.assertEqual(self.of([("get", 1), 0, ("put", 1)]), [(0, 2, ())])

    def test_places_that_no_leader_s_block_reaches(self):
        for word in (0, ("exit", 1)):
            image = image_of([("get", 1), word, ("put", 1), ("exit", 2)])
            self.assertEqual(code_blocks(image, plain(image)), [(0, 2, ())])

    def test_targets_that_are_no_places(self):
        self.assertEqual(self.of([("get", 1), ("beq", 1, 0, 9), ("jal", 0, 9)]), [(0, 2, (8,)), (8, 1, ())])

    def test_a_jump_through_a_table(self):
        self.assertEqual(code_blocks(TABLE, solve(TABLE)), [
            (0, 3, (12, 16)), (12, 1, (16,)), (16, 2, (28, 36)), (28, 2, (0,)), (36, 1, ()),
        ])

    def test_a_jump_of_any_target(self):
        image = image_of([("get", 1), ("jalr", 0, 1, 0), ("exit", 1)])
        self.assertEqual(code_blocks(image, solve(image)), [(0, 1, (4,)), (4, 1, None), (8, 1, ())])

    def test_a_block_across_the_last_address(self):
        image = (
            (code_segment(0, [("put", 1), ("exit", 0)]), code_segment(2 ** 32 - 8, [("get", 1), ("put", 1)])),
            2 ** 32 - 8, (),
        )
        self.assertEqual(code_blocks(image, solve(image)), [(2 ** 32 - 8, 4, ())])

    def test_an_entry_that_is_no_place(self):
        self.assertEqual(self.of([("exit", 0)], entry=TOP), [])

    def test_each_place_lies_in_one_block(self):
        chance = random.Random(5)
        for _ in range(100):
            count = chance.randint(1, 14)
            code = [chance.choice((
                ("get", 1), ("beq", 1, 2, chance.randint(-k - 1, count - k)), ("jal", 15, chance.randint(-k, count - k)),
                ("jalr", 0, 15, 0), ("exit", 0), 0, ("put", 1), ("addi", 2, 2, 1), ("bne", 1, 0, 1),
            )) for k in range(count)]
            image = image_of(code)
            table = solve(image)
            rows = dict(table)
            blocks = code_blocks(image, table)
            self.assertEqual([head for head, _, _ in blocks], leaders(image, table))
            held = [head + 4 * k for head, size, _ in blocks for k in range(size)]
            self.assertEqual(sorted(held), sorted(rows))
            for head, size, follow in blocks:
                found = ways(image, head + 4 * size - 4, rows[head + 4 * size - 4])
                if found is None:
                    self.assertIsNone(follow)
                else:
                    self.assertEqual(follow, tuple(target for target, _ in found if target in places(image)))
                    for target in follow:
                        self.assertIn(target, [other for other, _, _ in blocks])


class Loops(unittest.TestCase):
    def of(self, code, entry=0):
        image = image_of(code, entry=entry)
        return code_loops(image, solve(image))

    def test_no_loops(self):
        self.assertEqual(self.of([("get", 1), ("beq", 1, 0, 2), ("put", 1), ("exit", 1)]), [])
        self.assertEqual(self.of([("exit", 0)], entry=2), [])

    def test_a_loop_of_one_block(self):
        self.assertEqual(self.of([("get", 1), ("put", 1), ("bne", 1, 0, -1), ("exit", 0)]), [(4,)])
        self.assertEqual(self.of([("jal", 0, 0)]), [(0,)])

    def test_a_loop_of_several_blocks(self):
        self.assertEqual(self.of([("get", 1), ("beq", 1, 0, 3), ("put", 1), ("jal", 0, -3), ("exit", 1)]), [(0, 8)])
        self.assertEqual(code_loops(TABLE, solve(TABLE)), [(0, 12, 16, 28)])

    def test_two_loops(self):
        code = [
            ("get", 1), ("bne", 1, 0, -1), ("get", 2), ("beq", 2, 0, 2), ("jal", 0, -2), ("get", 3), ("jal", 0, -1),
        ]
        # The first way ends in a loop of one block.
        self.assertEqual(self.of(code), [(0,), (8, 16), (20,)])

    def test_a_loop_in_a_loop_is_one_set(self):
        self.assertEqual(self.of([
            ("get", 1), ("get", 2), ("bne", 2, 0, -1), ("bne", 1, 0, -3), ("exit", 0),
        ]), [(0, 4, 12)])

    def test_a_jump_of_any_target(self):
        image = image_of([("get", 1), ("jalr", 0, 1, 0), ("exit", 1)])
        self.assertEqual(code_loops(image, solve(image)), [(0, 4)])
        image = image_of([("exit", 1), ("jalr", 0, 1, 0)])
        self.assertEqual(code_loops(image, plain(image)), [(4,)])
        image = image_of([("exit", 1), ("jalr", 0, 1, 0), ("jal", 0, -1), ("jal", 0, 0)])
        self.assertEqual(code_loops(image, plain(image)), [(4, 8), (12,)])

    def test_many_blocks_of_any_target(self):
        image = image_of([("jalr", 0, 1, 0)] * 16384)
        self.assertEqual(code_loops(image, plain(image)), [tuple(range(0, 65536, 4))])

    def test_a_long_chain_of_blocks(self):
        image = image_of([("beq", 1, 2, 1)] * 10000 + [("jal", 0, -10000)])
        self.assertEqual(code_loops(image, plain(image)), [tuple(range(0, 40004, 4))])

    def test_arguments_stay_as_they_were(self):
        code = [("get", 1), ("beq", 1, 0, 3), ("put", 1), ("jal", 0, -3), ("exit", 1)]
        image = image_of(code)
        table = solve(image)
        for answer in (leaders, code_blocks, code_loops):
            answer(image, table)
        self.assertEqual((image, table), (image_of(code), solve(image_of(code))))
        self.assertEqual(table[0][1], ZEROS[:1] + (None,) + ZEROS[2:])


if __name__ == "__main__":
    unittest.main()
