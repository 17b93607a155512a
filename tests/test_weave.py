import unittest
from collections import Counter

from helpers import data_segment, image_of
from samples import ALL, CALLS, COUNTING, ECHO, INPUTS, NO_CODE, WILD, chance_images
from restitch.checker import check
from restitch.first import first_book
from restitch.holding import plain
from restitch.house import WORDS, rewrite
from restitch.machine import run, trace
from restitch.runbook import run_book
from restitch.weave import count_places, counted, weave


def do(instruction, old):
    return ("do", instruction, old)


class Places(unittest.TestCase):
    def body(self, code, addresses, *others):
        """The body of the first block behind count_places, and the counters."""
        image = image_of(code, *others)
        book, paper = count_places(image, *first_book(image), addresses)
        self.assertIs(check(image, book, paper), True)
        return book[0][0][1], paper[2]

    def test_in_front_of_the_event_of_the_step(self):
        code = [("get", 1), ("sw", 1, 0, 64), ("put", 1), ("exit", 0)]
        lines = [do(instruction, 4 * k) for k, instruction in enumerate(code[:3])]
        others = (data_segment(64, (0,) * 4),)
        for place in range(3):
            expected = (*lines[:place], ("count", 0), *lines[place:])
            self.assertEqual(self.body(code, (4 * place,), *others), (expected, ((0, 4 * place),)))

    def test_in_front_of_the_next_event_or_behind_all_lines(self):
        code = [("addi", 1, 1, 1), ("put", 1), ("addi", 1, 1, 2), ("addi", 1, 1, 3), ("exit", 0)]
        lines = [do(instruction, 4 * k) for k, instruction in enumerate(code[:4])]
        count = ("count", 0)
        self.assertEqual(self.body(code, (0,))[0], (lines[0], count, *lines[1:]))
        self.assertEqual(self.body(code, (4,))[0], (lines[0], count, *lines[1:]))
        for place in (8, 12, 16):
            self.assertEqual(self.body(code, (place,))[0], (*lines, count))

    def test_a_quiet_load_is_no_event(self):
        code = [("get", 1), ("lw", 2, 0, 64), ("lw", 3, 0, 64), ("put", 3), ("exit", 0)]
        body, _ = self.body(code, (8,), data_segment(64, (0,) * 4))
        self.assertEqual([line[0] for line in body], ["do", "do", "do", "count", "do"])
        self.assertEqual(body[4], do(("put", 3), 12))

    def test_several_places_in_the_order_of_the_steps(self):
        code = [("addi", 1, 1, 1), ("addi", 1, 1, 1), ("put", 1), ("jal", 0, 2), 0, ("exit", 0)]
        body, counters = self.body(code, (0, 4, 8, 12))
        self.assertEqual(body, (
            do(("addi", 1, 1, 1), 0), do(("addi", 1, 1, 1), 4), ("count", 0), ("count", 1), ("count", 2), do(("put", 1), 8), ("count", 3),
        ))
        self.assertEqual(counters, ((0, 0), (1, 4), (2, 8), (3, 12)))

    def test_behind_lines_that_already_stand_there(self):
        image = image_of([("addi", 1, 1, 1), ("put", 1), ("exit", 0)])
        pair = count_places(image, *first_book(image), (4, 8))
        book, paper = count_places(image, *pair, (0,))
        self.assertEqual(book[0][0][1], (do(("addi", 1, 1, 1), 0), ("count", 0), ("count", 2), do(("put", 1), 4), ("count", 1)))
        self.assertEqual(paper[2], ((0, 4), (1, 8), (2, 0)))
        self.assertIs(check(image, book, paper), True)

    def test_the_least_numbers_that_are_free(self):
        image = image_of([("addi", 1, 1, 1), ("put", 1), ("exit", 0)])
        book, paper = first_book(image)
        blocks = ((0, (do(("addi", 1, 1, 1), 0), ("count", 1), *book[0][0][1][1:]), book[0][0][2]),)
        pair = ((blocks, 0, ()), (*paper[:2], ((1, 0),)))
        self.assertIs(check(image, *pair), True)
        book, paper = count_places(image, *pair, (4, 8))
        self.assertEqual(paper[2], ((0, 4), (1, 0), (2, 8)))
        self.assertEqual(book[0][0][1], (do(("addi", 1, 1, 1), 0), ("count", 1), ("count", 0), do(("put", 1), 4), ("count", 2)))

    def test_a_place_that_a_block_begins_more_than_once(self):
        image = image_of([("put", 1), ("addi", 1, 1, 1), ("jal", 0, -2)])
        blocks = ((0, (do(("put", 1), 0), do(("addi", 1, 1, 1), 4), do(("put", 1), 0), do(("addi", 1, 1, 1), 4)), ("go", 0)),)
        book, paper = count_places(image, (blocks, 0, ()), (plain(image), ((0, 0, ALL, 6),), ()), (4, 8))
        count, line = (("count", 0), ("count", 1)), blocks[0][1]
        self.assertEqual(book[0][0][1], (line[0], line[1], *count, line[2], line[3], *count))
        self.assertIs(check(image, book, paper), True)

    def test_no_addresses(self):
        pair = first_book(ECHO)
        self.assertEqual(count_places(ECHO, *pair, ()), pair)
        self.assertEqual(count_places(ECHO, *pair, []), pair)

    def test_an_illegal_word(self):
        image = image_of([("addi", 1, 1, 1), 0])
        book, paper = count_places(image, *first_book(image), (4,))
        self.assertEqual(run_book(image, book, [], fuel=9), ([], ("trap", "illegal", 4), 3, [(0, 1)]))


class Weave(unittest.TestCase):
    def test_all_rows(self):
        book, paper = weave(ECHO, *first_book(ECHO))
        self.assertEqual(paper[2], ((0, 64), (1, 72), (2, 80)))
        self.assertEqual(book[0], (
            (0, (("count", 0), do(("get", 1), 64)), ("if", "beq", 1, 0, 2, 1)), (1, (("count", 1), do(("put", 1), 72)), ("go", 0)),
            (2, (("count", 2),), ("exit", 1)),
        ))

    def test_amounts(self):
        pair = first_book(CALLS)
        self.assertEqual([place for _, place in weave(CALLS, *pair, amount=0)[1][2]], [0, 8, 16, 24])
        self.assertEqual([place for _, place in weave(CALLS, *pair, amount=1)[1][2]], [0])
        self.assertEqual([place for _, place in weave(CALLS, *pair, amount=3)[1][2]], [0, 8, 16])
        self.assertEqual(weave(CALLS, *pair, amount=1000000), weave(CALLS, *pair))
        once = weave(CALLS, *pair, amount=1)
        self.assertEqual(weave(CALLS, *once, amount=1)[1][2], ((0, 0), (1, 8)))

    def test_nothing_to_do(self):
        pair = weave(CALLS, *first_book(CALLS))
        self.assertEqual(weave(CALLS, *pair), pair)
        pair = first_book(NO_CODE)
        self.assertEqual(weave(NO_CODE, *pair), pair)

    def test_addresses_that_are_no_places_are_not_counted(self):
        book, paper = weave(WILD, *first_book(WILD))
        self.assertEqual([place for _, place in paper[2]], [4 * k for k in range(9)])

    def test_no_more_counters_than_there_are_numbers(self):
        image = image_of([("jal", 0, 1)] * 1200 + [("exit", 0)])
        book, paper = weave(image, *first_book(image))
        self.assertEqual(paper[2], tuple((k, 4 * k) for k in range(1000)))
        self.assertIs(check(image, book, paper), True)
        self.assertEqual(weave(image, book, paper), (book, paper))

    def test_counted(self):
        book, paper = weave(ECHO, *first_book(ECHO))
        self.assertEqual(counted(paper, run_book(ECHO, book, [7, 0], fuel=99)[3]), [(64, 2), (72, 1), (80, 1)])
        self.assertEqual(counted(paper, run_book(ECHO, book, [0], fuel=99)[3]), [(64, 1), (72, 0), (80, 1)])
        self.assertEqual(counted(paper, []), [(64, 0), (72, 0), (80, 0)])
        self.assertEqual(counted((paper[0], paper[1], ((2, 80), (5, 64))), [(5, 9)]), [(64, 9), (80, 0)])
        self.assertEqual(counted((paper[0], paper[1], ()), []), [])


class Counts(unittest.TestCase):
    def test_counts_are_those_of_the_image(self):
        for chance, image in chance_images(2000, 120):
            script = [(chance.choice(WORDS), -1) for _ in range(chance.randrange(5))]
            book, paper = rewrite(image, script)
            free = [address for address, _ in paper[0] if address not in [place for _, place in paper[2]]]
            addresses = sorted(chance.sample(free, chance.randint(0, min(6, len(free)))))
            book, paper = count_places(image, book, paper, tuple(addresses))
            self.assertIs(check(image, book, paper), True)
            for data in INPUTS:
                _, end, steps = run(image, data, fuel=250)
                if end != ("none",):
                    begun = Counter(trace(image, data, fuel=250))
                    counts = run_book(image, book, data, fuel=8 * steps + 64)[3]
                    self.assertEqual(counted(paper, counts), sorted((place, begun[place]) for _, place in paper[2]))

    def test_counts_of_a_loop(self):
        book, paper = count_places(COUNTING, *first_book(COUNTING), (0, 8, 16, 24))
        self.assertEqual(counted(paper, run_book(COUNTING, book, [], fuel=99)[3]), [(0, 1), (8, 5), (16, 5), (24, 1)])


if __name__ == "__main__":
    unittest.main()
