import unittest

from helpers import image_of
from samples import ALL, CALLS, ECHO, FIXED, INPUTS, SWITCH, chance_images, image_of_text
from restitch.checker import check
from restitch.copies import copies
from restitch.first import first_book
from restitch.holding import plain
from restitch.house import WORDS, rewrite
from restitch.runbook import run_book
from restitch.symbols import Pool
from restitch.walk import old_way


def do(instruction, old):
    return ("do", instruction, old)


def plainly_copied(image, book, paper, amount):
    """What copies does, with the checker in the place of its knowledge."""
    blocks = {block[0]: block for block in book[0]}
    rows = {row[0]: row for row in paper[1]}
    found, steps = [], {label: row[3] for label, row in rows.items()}
    for label, body, end in book[0]:
        found.append((label, body, end))
        if end[0] != "go" or end[1] == label:
            continue
        _, more, other_end = blocks[end[1]]
        together = rows[label][3] + rows[end[1]][3]
        if len(more) > amount or together > 400:
            continue
        for lines, new_end in plain_choices(image, paper, label, together, other_end):
            block = (label, body + more + lines, new_end)
            kept = tuple(block if other[0] == label else other for other in book[0])
            left = tuple((*row[:3], together) if row[0] == label else row for row in paper[1])
            if check(image, (kept, *book[1:]), (paper[0], left, paper[2])):
                found[-1] = block
                steps[label] = together
                break
    return (tuple(found), *book[1:]), (paper[0], tuple((*row[:3], steps[row[0]]) for row in paper[1]), paper[2])


def plain_choices(image, paper, label, together, end):
    rows = {row[0]: row for row in paper[1]}
    way = old_way(Pool(), image, paper[0], rows[label][1], together)
    if end[0] not in ("if", "through") or way is None or way[4][0] != "at":
        return [((), end)]
    lines = (("li", end[3], end[4]),) if end[0] == "through" and end[3] != 0 else ()
    return [(lines, ("go", other)) for other in sorted(rows) if rows[other][1] == way[4][1]]


class Copies(unittest.TestCase):
    def test_a_call_becomes_the_body_and_its_return_a_go(self):
        pair = first_book(CALLS)
        book, paper = copies(CALLS, *pair)
        self.assertEqual(book, ((
            (0, (do(("get", 1), 0), ("li", 15, 8), do(("add", 1, 1, 1), 24)), ("go", 1)),
            (1, (do(("put", 1), 8), ("li", 15, 16), do(("add", 1, 1, 1), 24)), ("go", 2)),
            *pair[0][0][2:],
        ), 0, pair[0][2]))
        self.assertEqual([row[3] for row in paper[1]], [4, 4, 2, 2])
        self.assertIs(check(CALLS, book, paper), True)

    def test_the_result_of_a_jump_that_becomes_go(self):
        image = image_of_text("get r1\njal r15, 3\nput r14\nexit r14\naddi r1, r1, 1\njalr r14, r15, 0\n")
        pair = first_book(image, whole=True)
        book, paper = copies(image, *pair)
        self.assertEqual(book[0][1], (1, (("li", 15, 8), do(("addi", 1, 1, 1), 16)), ("go", 5)))
        book, paper = copies(image, book, paper)
        self.assertEqual(book[0][1], (1, (("li", 15, 8), do(("addi", 1, 1, 1), 16), ("li", 14, 24)), ("go", 2)))
        self.assertIs(check(image, book, paper), True)

    def test_amounts(self):
        image = image_of([("jal", 0, 1), ("put", 1), ("put", 2), ("put", 3), ("exit", 0)])
        pair = first_book(image)
        for amount in (0, 1, 2):
            self.assertEqual(copies(image, *pair, amount=amount), pair)
        for amount in (3, 8, 1000):
            self.assertEqual(copies(image, *pair, amount=amount)[0][0][0], (0, pair[0][0][1][1], ("exit", 0)))
        lines = [("put", 1)] * 9
        image = image_of([("jal", 0, 1), *lines, ("exit", 0)])
        self.assertEqual(copies(image, *first_book(image)), first_book(image))
        self.assertNotEqual(copies(image, *first_book(image), amount=9), first_book(image))
        image = image_of([("jal", 0, 1), *lines[:8], ("exit", 0)])
        self.assertNotEqual(copies(image, *first_book(image)), first_book(image))
        # A block without lines is copied with the amount 0.
        image = image_of([("jal", 0, 1), ("exit", 0)])
        self.assertEqual(copies(image, *first_book(image), amount=0)[0][0], ((0, (), ("exit", 0)), (1, (), ("exit", 0))))

    def test_blocks_as_they_were_passed_in(self):
        image = image_of([("jal", 0, 1)] * 4 + [("exit", 0)])
        book, paper = copies(image, *first_book(image))
        self.assertEqual([end for _, _, end in book[0]], [("go", 2), ("go", 3), ("go", 4), ("exit", 0), ("exit", 0)])
        self.assertEqual([row[3] for row in paper[1]], [2, 2, 2, 2, 1])
        pair = first_book(image)
        turned = (pair[0][0][::-1], *pair[0][1:])
        book, paper = copies(image, turned, pair[1])
        self.assertEqual([end for _, _, end in book[0]], [("exit", 0), ("exit", 0), ("go", 4), ("go", 3), ("go", 2)])

    def test_a_block_that_goes_to_itself_stays(self):
        image = image_of([("put", 1), ("jal", 0, -1)])
        self.assertEqual(copies(image, *first_book(image)), first_book(image))
        image = image_of([("put", 1), ("jal", 0, 1), ("put", 2), ("jal", 0, -3)])
        book, paper = copies(image, *first_book(image))
        self.assertEqual([end for _, _, end in book[0]], [("go", 0), ("go", 1)])
        self.assertEqual(copies(image, book, paper), (book, paper))

    def test_400_steps_together(self):
        for more, same in ((398, False), (399, False), (400, True)):
            image = image_of([("jal", 0, 1)] + [("addi", 1, 1, 1)] * (more - 1) + [("exit", 0)])
            pair = first_book(image)
            self.assertEqual(copies(image, *pair, amount=1000) == pair, same)

    def test_an_if_that_is_decided(self):
        image = image_of_text("addi r1, r0, 0\njal r0, 1\nbeq r1, r2, 2\nexit r1\nexit r2\nget r2\njal r0, -4")
        book, paper = first_book(image, whole=True)
        self.assertEqual(book[0][1], (1, (), ("if", "beq", 1, 2, 3, 2)))
        image = image_of_text("addi r1, r0, 0\naddi r2, r0, 0\njal r0, 1\nbeq r1, r2, 2\nexit r1\nexit r2")
        book, paper = first_book(image, whole=True)
        self.assertEqual(book[0][0], (0, (do(("addi", 1, 0, 0), 0), do(("addi", 2, 0, 0), 4)), ("go", 1)))
        book, paper = copies(image, book, paper)
        self.assertEqual(book[0][0], (0, (do(("addi", 1, 0, 0), 0), do(("addi", 2, 0, 0), 4)), ("go", 3)))
        self.assertEqual(paper[1][0][3], 4)
        self.assertIs(check(image, book, paper), True)

    def test_the_least_label_for_which_the_block_is_taken(self):
        image = image_of_text("addi r1, r0, 0\naddi r2, r0, 0\njal r0, 1\nbeq r1, r2, 2\nexit r1\nexit r2")
        lines = (do(("addi", 1, 0, 0), 0), do(("addi", 2, 0, 0), 4), ("li", 4, 77))
        # Register 4 does not agree behind the first block, which blocks 3 and 4 ask for.
        most = tuple(number for number in ALL if number != 4)
        blocks = (
            (0, lines, ("go", 1)), (1, (), ("if", "beq", 1, 2, 7, 2)), (2, (), ("exit", 1)), (3, (), ("exit", 2)), (4, (), ("exit", 2)),
            (5, (), ("exit", 2)), (7, (), ("exit", 2)),
        )
        rows = ((0, 0, ALL, 3), (1, 12, most, 1), (2, 16, most, 1), (3, 20, ALL, 1), (4, 20, (2, 4), 1), (5, 20, (2,), 1), (7, 20, (2,), 1))
        pair = (blocks, 0, ()), (plain(image), rows, ())
        self.assertIs(check(image, *pair), True)
        self.assertEqual(copies(image, *pair)[0][0][0], (0, lines, ("go", 5)))
        without = (tuple(block for block in blocks if block[0] != 5), 0, ()), (plain(image), tuple(row for row in rows if row[0] != 5), ())
        self.assertEqual(copies(image, *without)[0][0][0], (0, lines, ("go", 7)))

    def test_no_label_for_the_address(self):
        # Nothing can be fetched at 2, where the jump goes then, and no row has this address.
        image = image_of_text("addi r1, r0, 2\njal r0, 1\njalr r0, r1, 0\nexit r0")
        pair = first_book(image, whole=True)
        self.assertEqual(pair[0][0][1:3], ((1, (), ("go", 2)), (2, (), ("through", 1, 0, 0, 0))))
        joined = copies(image, *pair)
        self.assertEqual(joined[0][0][0], (0, (do(("addi", 1, 0, 2), 0),), ("go", 2)))
        self.assertEqual(copies(image, *joined), joined)
        self.assertEqual(run_book(image, joined[0], [], fuel=9)[1], ("trap", "fetch", 2))

    def test_turns_as_they_are_told(self):
        changed = 0
        for chance, image in chance_images(7000, 120):
            script = [(chance.choice(WORDS), -1) for _ in range(chance.randrange(5))]
            pair = rewrite(image, script, whole=chance.random() < 0.3)
            if len(pair[0][0]) < 40:
                amount = chance.choice((0, 1, 3, 8, 1000))
                found = copies(image, *pair, amount=amount)
                changed += found != pair
                self.assertEqual(found, plainly_copied(image, *pair, amount))
                self.assertIs(check(image, *found), True)
                for data in INPUTS:
                    out, end, steps, counts = run_book(image, pair[0], data, fuel=300)
                    if end != ("none",):
                        other = run_book(image, found[0], data, fuel=steps)
                        self.assertEqual((other[0], other[1], other[3]), (out, end, counts))
        self.assertGreater(changed, 20)

    def test_fixed_images(self):
        for image in FIXED:
            for whole in (False, True):
                pair = first_book(image, whole=whole)
                for _ in range(6):
                    pair = copies(image, *pair, amount=99)
                    self.assertIs(check(image, *pair), True)
        self.assertEqual(copies(SWITCH, *first_book(SWITCH), amount=0), first_book(SWITCH))
        self.assertEqual(len(copies(ECHO, *first_book(ECHO))[0][0]), 3)


if __name__ == "__main__":
    unittest.main()
