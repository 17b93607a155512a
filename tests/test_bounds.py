"""Answers about images and books that are as large as the document lets them be."""

import random
import unittest

from helpers import image_of
from restitch.blocks import code_blocks, code_loops, leaders
from restitch.descent import call_graph, calls, descend, routines
from restitch.holding import facts_at, holds_table, plain
from restitch.image import pack_image, unpack_image
from restitch.layout import lay
from restitch.runbook import last_of_book, run_book
from restitch.solve import solve
from restitch.tables import jump_tables
from restitch.text import assemble, show_code
from restitch.ways import places

MOST = 16384


def large_code():
    """Code of 16384 words with branches, calls, returns and other words."""
    chance = random.Random(6)
    found = []
    for place in range(MOST):
        near = chance.randint(-min(place, 200), min(200, MOST - 1 - place))
        found.append(chance.choice((
            ("addi", chance.randrange(1, 8), chance.randrange(8), 1), ("andi", chance.randrange(1, 8), chance.randrange(8), 7),
            ("get", chance.randrange(1, 8)), ("beq", chance.randrange(8), chance.randrange(8), near),
            ("bltu", chance.randrange(8), chance.randrange(8), near), ("jal", chance.choice((0, 15)), near),
            ("add", chance.randrange(1, 8), chance.randrange(8), chance.randrange(8)), ("put", 1),
        )))
    return found


class Images(unittest.TestCase):
    def check(self, image, table):
        self.assertTrue(holds_table(image, table))
        heads = leaders(image, table)
        blocks = code_blocks(image, table)
        self.assertEqual([head for head, _, _ in blocks], heads)
        self.assertEqual(sum(count for _, count, _ in blocks), len(table))
        for loop in code_loops(image, table):
            self.assertEqual(list(loop), sorted(loop))
        self.assertEqual(jump_tables(image, table), [])
        called = {target for _, _, targets in calls(image, table) for target in targets or ()}
        self.assertEqual([head for head, _ in routines(image, table)], sorted(called))
        self.assertEqual({target for _, target in call_graph(image, table)}, called)

    def test_a_large_image(self):
        image = image_of(large_code())
        table = solve(image)
        self.assertGreater(len(table), 1000)
        self.check(image, table)
        self.check(image, plain(image))
        self.assertEqual(len(places(image)), MOST)
        self.assertIsNotNone(facts_at(plain(image), 65532))
        self.assertLessEqual({address for address, _ in table}, set(descend(image)))

    def test_a_large_image_of_any_target(self):
        code = large_code()
        code[::50] = [("jalr", 0, 9, 0)] * len(code[::50])
        image = image_of([("get", 9), *code[1:]])
        table = solve(image)
        self.assertEqual(table, plain(image))
        self.check(image, table)
        self.assertEqual(leaders(image, table), places(image))

    def test_a_large_image_as_bytes_and_as_text(self):
        image = image_of(large_code())
        self.assertEqual(unpack_image(pack_image(image)), image)
        lines = show_code(image, 0, MOST)
        words = assemble("\n".join(line.partition(": ")[2] for line in lines))
        self.assertEqual(image_of(words), image)


class Books(unittest.TestCase):
    def test_a_book_of_20000_blocks(self):
        body = (("count", 5),) * 4 + (("li", 1, 9),)
        blocks = tuple((label, body, ("go", label + 1)) for label in range(19999))
        book = ((*blocks, (19999, body, ("exit", 1))), 0, tuple((4 * label, label) for label in range(16384)))
        image = image_of([("exit", 0)])
        self.assertEqual(run_book(image, book, [], fuel=200000), ([], ("exit", 9), 120000, [(5, 80000)]))
        self.assertEqual(last_of_book(image, book, [], fuel=119999)[1:3], (19999, 5))
        self.assertEqual(len(lay(book)[0]), 4 * (20000 * 6 + 1))


if __name__ == "__main__":
    unittest.main()
