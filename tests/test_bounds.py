"""Answers about images and books that are as large as the document lets them be."""

import random
import unittest

from helpers import data_segment, image_of
from restitch.blocks import code_blocks, code_loops, leaders
from restitch.checker import check, refusal
from restitch.codes import OPS
from restitch.copies import copies
from restitch.dead import dead, wanted
from restitch.descent import call_graph, calls, descend, routines
from restitch.first import first_book
from restitch.holding import facts_at, holds_table, plain
from restitch.image import pack_image, unpack_image
from restitch.known import known, reuse
from restitch.layout import lay, pack, unpack
from restitch.runbook import last_of_book, run_book
from restitch.solve import solve
from restitch.tables import jump_tables
from restitch.text import assemble, show_code
from restitch.tidy import drop, join, order
from restitch.ways import places
from restitch.weave import weave

MOST = 16384


def large_code():
    """Code of 16384 words with branches, calls, returns and other words."""
    chance = random.Random(6)
    found = []
    for place in range(MOST):
        near = chance.randint(-min(place, 200), min(200, MOST - 1 - place))
        found.append(chance.choice((
            ("addi", chance.randrange(1, 8), chance.randrange(8), 1), ("andi", chance.randrange(1, 8), chance.randrange(8), 7),
            ("get", chance.randrange(1, 8)), ("beq", chance.randrange(8), chance.randrange(8), near),
            ("bltu", chance.randrange(8), chance.randrange(8), near), ("jal", chance.choice((0, 15)), near),
            ("add", chance.randrange(1, 8), chance.randrange(8), chance.randrange(8)), ("put", 1),
        )))
    return found


class Images(unittest.TestCase):
    def check(self, image, table):
        self.assertTrue(holds_table(image, table))
        heads = leaders(image, table)
        blocks = code_blocks(image, table)
        self.assertEqual([head for head, _, _ in blocks], heads)
        self.assertEqual(sum(count for _, count, _ in blocks), len(table))
        for loop in code_loops(image, table):
            self.assertEqual(list(loop), sorted(loop))
        self.assertEqual(jump_tables(image, table), [])
        called = {target for _, _, targets in calls(image, table) for target in targets or ()}
        self.assertEqual([head for head, _ in routines(image, table)], sorted(called))
        self.assertEqual({target for _, target in call_graph(image, table)}, called)

    def test_a_large_image(self):
        image = image_of(large_code())
        table = solve(image)
        self.assertGreater(len(table), 1000)
        self.check(image, table)
        self.check(image, plain(image))
        self.assertEqual(len(places(image)), MOST)
        self.assertIsNotNone(facts_at(plain(image), 65532))
        self.assertLessEqual({address for address, _ in table}, set(descend(image)))

    def test_a_large_image_of_any_target(self):
        code = large_code()
        code[::50] = [("jalr", 0, 9, 0)] * len(code[::50])
        image = image_of([("get", 9), *code[1:]])
        table = solve(image)
        self.assertEqual(table, plain(image))
        self.check(image, table)
        self.assertEqual(leaders(image, table), places(image))

    def test_a_large_image_as_bytes_and_as_text(self):
        image = image_of(large_code())
        self.assertEqual(unpack_image(pack_image(image)), image)
        lines = show_code(image, 0, MOST)
        words = assemble("\n".join(line.partition(": ")[2] for line in lines))
        self.assertEqual(image_of(words), image)


class Rewritings(unittest.TestCase):
    """Each rewriting of first books that are as large as an image lets them be."""

    def check_all(self, image, whole=False):
        pair = first_book(image, whole=whole)
        self.assertIsNone(refusal(image, *pair))
        for function, amounts in (
            (order, (0,)), (drop, (0,)), (dead, (0,)), (known, (1000, 10 ** 6)), (reuse, (10 ** 6,)), (copies, (8,)), (weave, (0,)), (join, (10 ** 6,)),
        ):
            for amount in amounts:
                pair = function(image, *pair, amount=amount)
            self.assertIs(check(image, *pair), True, function.__name__)
        self.assertEqual(unpack(pack(pair[0])), pair[0])
        self.assertEqual(set(wanted(image, *pair)), {row[0] for row in pair[1][1]})
        return pair

    def test_a_large_image(self):
        image = image_of(large_code())
        book, _ = self.check_all(image)
        self.assertGreater(len(book[0]), 100)
        self.check_all(image, whole=True)

    def test_jumps_to_any_place(self):
        code = [("get", 9)] + [("jalr", place & 1, 9, place % 8000) for place in range(1, MOST)]
        book, paper = self.check_all(image_of(code))
        self.assertEqual((len(book[0]), len(book[2])), (MOST, MOST))

    def test_one_block_of_many_lines(self):
        chance = random.Random(7)

        def reg():
            return chance.randrange(16)
        code = [("get", 1), ("get", 2)]
        while len(code) < MOST - 200:
            code.append(chance.choice((
                (chance.choice(OPS[:13]), reg(), reg(), reg()), (chance.choice(OPS[13:21]), reg(), reg(), chance.randint(-20, 50)),
                (chance.choice(("lw", "lb", "lbu")), reg(), chance.choice((0, reg())), 4000), ("sb", reg(), 0, 4004), ("put", reg()), ("get", reg()),
            )))
        image = image_of([*code, ("exit", 1)], data_segment(4000, (7,) * 64), address=8192)
        book, paper = self.check_all(image)
        self.assertEqual(len(book[0]), 1)
        self.assertLess(len(book[0][0][1]), len(code))

    def test_a_chain_of_jumps(self):
        book, paper = self.check_all(image_of([("jal", 0, 1)] * (MOST - 1) + [("exit", 0)]))
        self.assertEqual(sum(row[3] for row in paper[1]) >= MOST, True)
        self.assertLessEqual(max(row[3] for row in paper[1]), 400)


class Books(unittest.TestCase):
    def test_a_book_of_20000_blocks(self):
        body = (("count", 5),) * 4 + (("li", 1, 9),)
        blocks = tuple((label, body, ("go", label + 1)) for label in range(19999))
        book = ((*blocks, (19999, body, ("exit", 1))), 0, tuple((4 * label, label) for label in range(16384)))
        image = image_of([("exit", 0)])
        self.assertEqual(run_book(image, book, [], fuel=200000), ([], ("exit", 9), 120000, [(5, 80000)]))
        self.assertEqual(last_of_book(image, book, [], fuel=119999)[1:3], (19999, 5))
        self.assertEqual(len(lay(book)[0]), 4 * (20000 * 6 + 1))


if __name__ == "__main__":
    unittest.main()
