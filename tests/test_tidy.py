import unittest
from collections import Counter

from helpers import bytes_of, constant_segment, facts_of, image_of
from samples import ALL, CALLS, COUNTING, ECHO, FIXED, INPUTS, NO_CODE, SWITCH, WILD, chance_images, image_of_text
from restitch.book import targets_of_end
from restitch.checker import check
from restitch.first import first_book
from restitch.holding import plain
from restitch.house import WORDS, rewrite
from restitch.known import known
from restitch.layout import lay
from restitch.runbook import run_book
from restitch.tidy import drop, join, order
from restitch.weave import count_places, weave


def do(instruction, old):
    return ("do", instruction, old)


def labels_of(book):
    return [block[0] for block in book[0]]


def with_order(pair, *labels):
    blocks = {block[0]: block for block in pair[0][0]}
    return (tuple(blocks[label] for label in labels), *pair[0][1:]), pair[1]


class Order(unittest.TestCase):
    def test_chains(self):
        pair = first_book(ECHO)
        self.assertEqual(order(ECHO, *pair), pair)
        self.assertEqual(order(ECHO, *with_order(pair, 2, 1, 0)), pair)
        self.assertEqual(order(ECHO, *with_order(pair, 1, 2, 0)), pair)

    def test_the_second_label_goes_ahead_of_the_first_one(self):
        image = image_of_text("get r1\nbeq r1, r0, 3\nput r1\njal r0, 2\nput r0\nexit r1")
        pair = first_book(image)
        self.assertEqual(pair[0][0][0][2], ("if", "beq", 1, 0, 2, 1))
        self.assertEqual(labels_of(order(image, *pair)[0]), [0, 1, 3, 2])
        blocks = ((0, pair[0][0][0][1], ("if", "bne", 1, 0, 1, 2)), *pair[0][0][1:])
        self.assertEqual(labels_of(order(image, (blocks, 0, ()), pair[1])[0]), [0, 2, 3, 1])
        # The first label is taken where the second one was put already.
        blocks = ((5, (), ("go", 3)), (3, (), ("if", "beq", 1, 1, 4, 5)), (6, (), ("exit", 0)), (4, (), ("exit", 1)))
        self.assertEqual(labels_of(order(image, (blocks, 5, ()), pair[1])[0]), [5, 3, 4, 6])

    def test_the_first_block_that_was_not_put(self):
        pair = first_book(CALLS)
        self.assertEqual(labels_of(order(CALLS, *pair)[0]), [0, 3, 1, 2])
        self.assertEqual(labels_of(order(CALLS, *with_order(pair, 2, 3, 1, 0))[0]), [0, 3, 2, 1])

    def test_nothing_else_changes(self):
        for chance, image in chance_images(2500, 60):
            pair = first_book(image)
            labels = labels_of(pair[0])
            chance.shuffle(labels)
            mixed = with_order(pair, *labels)
            book, paper = order(image, *mixed, amount=chance.randrange(3))
            self.assertEqual((sorted(book[0]), book[1:], paper), (sorted(pair[0][0]), pair[0][1:], pair[1]))
            self.assertEqual(book[0][0][0], book[1])
            self.assertIs(check(image, book, paper), True)
            self.assertEqual(order(image, book, paper), (book, paper))

    def test_a_long_book(self):
        blocks = tuple((label, (), ("go", (label * 7 + 1) % 20000)) for label in range(20000))
        book, _ = order(ECHO, (blocks, 3, ()), None)
        self.assertEqual(sorted(labels_of(book)), list(range(20000)))
        self.assertEqual(labels_of(book)[:3], [3, 22, 155])


def count_edges(book):
    ends = [label for _, _, end in book[0] for label in targets_of_end(end)]
    return Counter(ends + [label for _, label in book[2]])


def plainly_joined(image, book, paper, amount):
    """What join does, one turn after the other, with the checker in the place of its knowledge."""
    for _ in range(amount):
        pair = one_join(image, book, paper)
        if pair is None:
            break
        book, paper = pair
    return book, paper


def one_join(image, book, paper):
    blocks = {label: (body, end) for label, body, end in book[0]}
    steps = {row[0]: row[3] for row in paper[1]}
    edges = count_edges(book)
    for label, body, end in book[0]:
        if end[0] != "go" or end[1] in (label, book[1]) or edges[end[1]] != 1 or steps[label] + steps[end[1]] > 400:
            continue
        other = end[1]
        joined = (label, body + blocks[other][0], blocks[other][1])
        kept = tuple(joined if block[0] == label else block for block in book[0] if block[0] != other)
        rows = tuple((*row[:3], row[3] + steps[other]) if row[0] == label else row for row in paper[1] if row[0] != other)
        pair = (kept, *book[1:]), (paper[0], rows, paper[2])
        if check(image, *pair):
            return pair
    return None


class Join(unittest.TestCase):
    def test_a_chain_of_jumps(self):
        image = image_of([("put", 1), ("jal", 2, 2), 0, ("put", 2), ("jal", 0, 2), 0, ("exit", 1)])
        pair = first_book(image)
        book, paper = join(image, *pair)
        self.assertEqual(book, (((0, (do(("put", 1), 0), ("li", 2, 8), do(("put", 2), 12)), ("exit", 1)),), 0, ()))
        self.assertEqual(paper, (pair[1][0], ((0, 0, ALL, 5),), ()))
        self.assertEqual(join(image, book, paper), (book, paper))

    def test_amounts(self):
        image = image_of([("jal", 0, 1)] * 4 + [("exit", 0)])
        pair = first_book(image)
        self.assertEqual(len(pair[0][0]), 5)
        self.assertEqual(join(image, *pair, amount=0), pair)
        book, paper = join(image, *pair, amount=1)
        self.assertEqual(book[0], ((0, (), ("go", 2)), *pair[0][0][2:]))
        self.assertEqual([row[3] for row in paper[1]], [2, 1, 1, 1])
        for amount in range(6):
            self.assertEqual(len(join(image, *pair, amount=amount)[0][0]), max(1, 5 - amount))
        self.assertEqual(join(image, *pair, amount=1000000), join(image, *pair))

    def test_the_first_block_of_the_book_goes_first(self):
        image = image_of([("jal", 0, 1)] * 4 + [("exit", 0)])
        pair = with_order(first_book(image), 2, 0, 1, 3, 4)
        self.assertEqual(labels_of(join(image, *pair, amount=1)[0]), [2, 0, 1, 4])
        self.assertEqual(labels_of(join(image, *pair, amount=2)[0]), [2, 0, 1])
        self.assertEqual(labels_of(join(image, *pair, amount=3)[0]), [2, 0])
        self.assertEqual(labels_of(join(image, *pair, amount=4)[0]), [0])

    def test_other_edges(self):
        self.assertEqual(join(CALLS, *first_book(CALLS)), first_book(CALLS))
        # The entry is led to from outside of all blocks.
        image = image_of([("put", 1), ("jal", 0, -1)])
        self.assertEqual(join(image, *first_book(image)), first_book(image))
        image = image_of([("put", 1), ("jal", 0, 1), ("put", 2), ("jal", 0, -3)])
        book, paper = join(image, *first_book(image))
        self.assertEqual((len(book[0]), paper[1][0][3]), (1, 4))
        # Both labels of one end are two edges, and one of the table is one, too.
        image = image_of([("get", 1), ("beq", 1, 0, 2), 0, ("exit", 0)])
        book, paper = first_book(image)
        both = (((0, book[0][0][1], ("if", "beq", 1, 0, 2, 1)), *book[0][1:]), 0, ())
        self.assertEqual(join(image, both, paper), (both, paper))
        image = image_of([("jal", 0, 1), ("exit", 0)])
        book, paper = first_book(image)
        tabled = (book[0], 0, ((4, 1),))
        self.assertEqual(join(image, tabled, paper), (tabled, paper))
        self.assertEqual(len(join(image, book, paper)[0][0]), 1)

    def test_a_block_is_not_joined_with_itself(self):
        image = image_of([("get", 1), ("jal", 0, 0)])
        self.assertEqual(len(first_book(image)[0][0]), 2)
        self.assertEqual(join(image, *first_book(image)), first_book(image))

    def test_400_steps_together(self):
        for more, blocks in ((398, 1), (399, 1), (400, 2)):
            image = image_of([("jal", 0, 1)] + [("addi", 1, 1, 1)] * (more - 1) + [("exit", 0)])
            self.assertEqual(len(join(image, *first_book(image))[0][0]), blocks)

    def test_blocks_that_are_not_taken_together(self):
        # Each block is right by itself. Together, the last load is quiet on the book's side alone,
        # since what is known of r3 there counts only behind the next event on the old side.
        code = [("lw", 2, 0, 64), ("addi", 3, 2, 4), ("jal", 0, 1), ("lw", 4, 3, 0), ("lw", 5, 3, 0), ("exit", 5)]
        image = image_of(code, constant_segment(64, bytes_of([64, 5])))
        pair = known(image, *first_book(image))
        self.assertEqual(pair[0][0][0], (0, (do(("lw", 2, 0, 64), 0), ("li", 3, 68)), ("go", 1)))
        self.assertEqual(join(image, *pair), pair)
        self.assertEqual(len(join(image, *first_book(image))[0][0]), 1)
        self.assertEqual(run_book(image, pair[0], [], fuel=99)[1], ("exit", 5))

    def test_counters(self):
        image = image_of([("put", 1), ("jal", 2, 2), 0, ("put", 2), ("jal", 0, 2), 0, ("exit", 1)])
        pair = weave(image, *first_book(image))
        book, paper = join(image, *pair)
        self.assertEqual(paper[2], pair[1][2])
        self.assertEqual(run_book(image, book, [], fuel=99)[3], [(0, 1), (1, 1), (2, 1)])
        self.assertIs(check(image, book, paper), True)

    def test_turns_as_they_are_told(self):
        for chance, image in chance_images(3000, 150):
            script = [(chance.choice(WORDS), -1) for _ in range(chance.randrange(5))]
            pair = rewrite(image, script, whole=chance.random() < 0.3)
            if len(pair[0][0]) < 40:
                amount = chance.choice((1, 2, 1000))
                found = join(image, *pair, amount=amount)
                self.assertEqual(found, plainly_joined(image, *pair, amount))
                self.assertIs(check(image, *found), True)

    def test_a_long_chain(self):
        image = image_of([("jal", 0, 1)] * 4000 + [("exit", 0)])
        book, paper = join(image, *first_book(image), amount=10000)
        self.assertEqual([row[3] for row in paper[1]], [400] * 10 + [1])
        self.assertIs(check(image, book, paper), True)
        self.assertEqual(len(join(image, *first_book(image))[0][0]), 3001)


class Drop(unittest.TestCase):
    def test_nothing_to_do(self):
        for image in FIXED:
            pair = first_book(image)
            if image != WILD:
                self.assertEqual(drop(image, *pair), pair)
        self.assertEqual(drop(NO_CODE, *first_book(NO_CODE)), first_book(NO_CODE))

    def test_blocks_that_nothing_leads_to(self):
        book, paper = first_book(COUNTING, whole=True)
        more = (*book[0], (7, (), ("go", 9)), (9, (), ("exit", 2)))
        rows = (*paper[1], (7, 24, ALL, 0), (9, 24, ALL, 1))
        self.assertIs(check(COUNTING, (more, 0, ()), (paper[0], rows, ())), True)
        self.assertEqual(drop(COUNTING, (more, 0, ()), (paper[0], rows, ())), (book, paper))

    def test_entries_that_no_jump_needs(self):
        image = image_of([("addi", 1, 0, 8), ("jalr", 0, 1, 0), ("exit", 1)])
        book, paper = first_book(image)
        self.assertEqual(book[2], ((8, 1),))
        self.assertEqual(drop(image, book, paper), ((book[0], 0, ()), paper))
        pair = join(image, *drop(image, book, paper))
        self.assertEqual(pair[0], (((0, (do(("addi", 1, 0, 8), 0),), ("exit", 1)),), 0, ()))

    def test_entries_of_the_jumps_that_are_left(self):
        pair = rewrite(CALLS, [("copies", -1)])
        book, paper = drop(CALLS, *pair)
        # The returns became go, so that the routine and its table are not needed.
        self.assertEqual(labels_of(pair[0]), [0, 1, 2, 3])
        self.assertEqual((labels_of(book), book[2]), ([0, 1, 2], ()))
        self.assertIs(check(CALLS, book, paper), True)

    def test_any_target(self):
        pair = first_book(WILD)
        self.assertEqual(drop(WILD, *pair), pair)

    def test_it_is_repeated(self):
        # The jump stands in a block to which only the table leads, by an entry that only it needs.
        image = image_of([("jalr", 0, 0, 8), ("exit", 1), ("exit", 0), ("get", 1), ("andi", 1, 1, 4), ("jalr", 0, 1, 24), ("exit", 0), ("exit", 0)])
        book, paper = first_book(image, whole=True)
        facts = tuple((address, facts_of(r1=("words", (0, 4))) if address == 20 else facts_of()) for address in range(0, 32, 4))
        pair = (book[0], book[1], tuple((address, label) for label, address, _, _ in paper[1])), (facts, *paper[1:])
        self.assertIs(check(image, *pair), True)
        self.assertEqual(drop(image, *pair), ((book[0][:1] + book[0][2:3], 0, ()), (facts, (paper[1][0], paper[1][2]), ())))

    def test_counters(self):
        pair = rewrite(CALLS, [("weave", 0), ("copies", -1)])
        self.assertEqual([place for _, place in pair[1][2]], [0, 8, 16, 24])
        book, paper = drop(CALLS, *pair)
        self.assertEqual(paper[2], pair[1][2])
        # A counter of code that nothing leads to goes with the last line that adds to it.
        image = image_of([("exit", 0), ("exit", 0)])
        book, paper = first_book(image)
        blocks = (*book[0], (5, (("count", 3),), ("exit", 0)))
        facts = plain(image)
        paper = (facts, (*paper[1], (5, 4, ALL, 1)), ((3, 4), (8, 0)))
        blocks = ((0, (("count", 8),), ("exit", 0)), blocks[1])
        self.assertIs(check(image, (blocks, 0, ()), paper), True)
        self.assertEqual(drop(image, (blocks, 0, ()), paper), ((blocks[:1], 0, ()), (facts, paper[1][:1], ((8, 0),))))
        # A counter that no line ever added to goes, too; and without it nothing is left to do.
        self.assertEqual(drop(image, book, (facts, ((0, 0, ALL, 1),), ((3, 4),)))[1][2], ())

    def test_needed_things_stay(self):
        for chance, image in chance_images(3500, 100):
            pair = rewrite(image, [(chance.choice(WORDS), -1) for _ in range(chance.randrange(5))])
            book, paper = drop(image, *pair)
            self.assertIs(check(image, book, paper), True)
            self.assertEqual(drop(image, book, paper), (book, paper))
            self.assertLessEqual(set(book[0]), set(pair[0][0]))
            self.assertLessEqual(set(paper[1]), set(pair[1][1]))
            for data in INPUTS:
                self.assertEqual(run_book(image, book, data, fuel=300), run_book(image, *pair[:1], data, fuel=300))


class Sizes(unittest.TestCase):
    def test_order_spares_jumps(self):
        pair = with_order(first_book(COUNTING), 0, 2, 1)
        self.assertLess(len(lay(order(COUNTING, *pair)[0])[0]), len(lay(pair[0])[0]))
        self.assertEqual(order(SWITCH, *first_book(SWITCH))[1], first_book(SWITCH)[1])
        self.assertEqual(count_places(SWITCH, *order(SWITCH, *first_book(SWITCH)), (0,))[1][2], ((0, 0),))


if __name__ == "__main__":
    unittest.main()
