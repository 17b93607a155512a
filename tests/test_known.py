import unittest

from helpers import bytes_of, constant_segment, data_segment, facts_of, image_of, row
from samples import ALL, FIXED, INPUTS, MEMORY, chance_images
from restitch.checker import check
from restitch.first import first_book
from restitch.holding import plain
from restitch.house import WORDS, rewrite
from restitch.known import known, reuse
from restitch.runbook import run_book


def do(instruction, old):
    return ("do", instruction, old)


def body_of(pair, index=0):
    return pair[0][0][index][1]


class Case(unittest.TestCase):
    def one(self, image, lines, end, steps, facts=None, same=ALL):
        """A pair of one block, which is taken."""
        pair = (((0, tuple(lines), end),), 0, ()), (plain(image) if facts is None else facts, ((0, image[1], same, steps),), ())
        self.assertIs(check(image, *pair), True)
        return pair

    def check_random(self, rewriting, first):
        """A rewriting leaves each pair taken, makes no run longer, and a second turn changes nothing."""
        changed = 0
        for chance, image in chance_images(first, 150):
            script = [(chance.choice(WORDS), -1) for _ in range(chance.randrange(5))]
            pair = rewrite(image, script, whole=chance.random() < 0.3)
            found = rewriting(image, *pair)
            changed += found != pair
            self.assertIs(check(image, *found), True)
            self.assertEqual(rewriting(image, *found), found)
            self.assertEqual(found[1], pair[1])
            for data in INPUTS:
                out, end, steps, counts = run_book(image, pair[0], data, fuel=300)
                other = run_book(image, found[0], data, fuel=300)
                self.assertEqual(other, (out, end, steps, counts))
        self.assertGreater(changed, 2)


class Known(Case):
    def test_words(self):
        code = [("addi", 1, 0, 4), ("shli", 2, 1, 3), ("add", 3, 2, 1), ("put", 3), ("exit", 3)]
        image = image_of(code)
        pair = known(image, *first_book(image))
        self.assertEqual(body_of(pair), (("li", 1, 4), ("li", 2, 32), ("li", 3, 36), do(("put", 3), 12)))
        self.assertEqual(pair[1], first_book(image)[1])

    def test_lines_that_stay(self):
        image = image_of([("get", 1), ("addi", 2, 1, 4), ("lw", 3, 0, 64), ("exit", 2)], data_segment(64, (0,) * 4))
        self.assertEqual(known(image, *first_book(image)), first_book(image))
        # A lui that is done by a line is no alu instruction.
        image = image_of([("lui", 1, 5), ("exit", 1)])
        pair = self.one(image, [do(("lui", 1, 5), 0)], ("exit", 1), 2)
        self.assertEqual(known(image, *pair), pair)

    def test_a_result_for_register_0(self):
        image = image_of([("addi", 0, 0, 5), ("add", 0, 1, 2), ("exit", 0)])
        pair = first_book(image, whole=True)
        self.assertEqual(body_of(known(image, *pair)), (("li", 0, 5), do(("add", 0, 1, 2), 4)))

    def test_what_facts_tell_of_a_constant(self):
        image = image_of([("lw", 1, 0, 64), ("addi", 2, 1, 4), ("put", 2), ("exit", 1)], constant_segment(64, bytes_of([9])))
        pair = known(image, *first_book(image))
        self.assertEqual(body_of(pair), (do(("lw", 1, 0, 64), 0), ("li", 2, 13), do(("put", 2), 8)))
        self.assertIs(check(image, *pair), True)

    def test_what_is_known_counts_only_behind_as_many_events(self):
        # The same sum ahead of the load's event and behind it: r1 is known behind the second one.
        code = [("get", 9), ("addi", 2, 1, 4), ("get", 9), ("addi", 3, 1, 4), ("put", 2), ("put", 3), ("exit", 3)]
        image = image_of(code)
        facts = tuple((4 * k, facts_of(r1=row(5)) if k == 3 else facts_of()) for k in range(7))
        image = (image[0], 400, ())
        blocks = ((0, tuple(do(code[k], 4 * k) for k in range(6)), ("exit", 3)), (1, (), ("trap", "fetch", 400)))
        # The facts do not hold; known asks for a pair that check takes, and so does not look at them.
        pair = ((blocks, 1, ()), (facts, ((0, 0, ALL, 7), (1, 400, ALL, 1)), ()))
        self.assertEqual(body_of(known(image, *pair))[1], do(("addi", 2, 1, 4), 4))
        self.assertEqual(body_of(known(image, *pair))[3], ("li", 3, 9))

    def test_amounts(self):
        code = [("addi", 1, 0, 4), ("addi", 2, 0, 5), ("jal", 0, 1), ("addi", 3, 0, 6), ("exit", 3)]
        image = image_of(code)
        pair = first_book(image)
        self.assertEqual(known(image, *pair, amount=0), pair)
        once = known(image, *pair, amount=1)
        self.assertEqual((body_of(once), body_of(once, 1)), ((("li", 1, 4), do(("addi", 2, 0, 5), 4)), (do(("addi", 3, 0, 6), 12),)))
        twice = known(image, *pair, amount=2)
        self.assertEqual((body_of(twice), body_of(twice, 1)), ((("li", 1, 4), ("li", 2, 5)), (do(("addi", 3, 0, 6), 12),)))
        self.assertEqual(known(image, *once, amount=1), twice)
        for amount in (3, 4, 1000, 10 ** 6):
            self.assertEqual(known(image, *pair, amount=amount), known(image, *pair))
        self.assertEqual(body_of(known(image, *pair), 1), (("li", 3, 6),))

    def test_a_block_that_would_not_be_taken_stays(self):
        code = [("lw", 2, 0, 64), ("addi", 3, 2, 4), ("lw", 4, 3, 0), ("lw", 5, 3, 0), ("addi", 6, 0, 1), ("exit", 5)]
        image = image_of(code, constant_segment(64, bytes_of([64, 5])))
        pair = first_book(image)
        # With the word in r3 the last load would be quiet on the book's side alone.
        self.assertEqual(known(image, *pair), pair)
        # One line that is chosen alone may be one that leaves the block taken.
        self.assertEqual(known(image, *pair, amount=1), pair)

    def test_a_block_that_stays_takes_nothing_of_the_amount(self):
        code = [("lw", 2, 0, 64), ("addi", 3, 2, 4), ("lw", 4, 3, 0), ("lw", 5, 3, 0), ("jal", 0, 1), ("addi", 6, 0, 1), ("exit", 5)]
        image = image_of(code, constant_segment(64, bytes_of([64, 5])))
        pair = known(image, *first_book(image), amount=1)
        self.assertEqual(body_of(pair), body_of(first_book(image)))
        self.assertEqual(body_of(pair, 1), (("li", 6, 1),))

    def test_turns_are_repeated(self):
        # By the facts r3 is 0, but a sum that it is a part of is a word only behind the line of r3.
        code = [("get", 1), ("lui", 5, 2 ** 17), ("and", 1, 1, 5), ("shli", 3, 1, 1), ("addi", 0, 3, 4), ("put", 3), ("exit", 3)]
        image = image_of(code)
        pair = first_book(image)
        found = known(image, *pair)
        self.assertEqual(body_of(found)[3:], (("li", 3, 0), ("li", 0, 4), do(("put", 3), 20)))
        self.assertEqual(known(image, *found), found)
        once = known(image, *pair, amount=1)
        self.assertEqual(body_of(once)[3:], (("li", 3, 0), do(("addi", 0, 3, 4), 16), do(("put", 3), 20)))
        self.assertEqual(known(image, *pair, amount=2), found)

    def test_chance_images(self):
        self.check_random(known, 4000)


class Reuse(Case):
    def test_loads_and_stores(self):
        code = [
            ("get", 7), ("lw", 1, 7, 0), ("lw", 2, 7, 0), ("sw", 3, 7, 4), ("lw", 4, 7, 4), ("lb", 5, 7, 8), ("lb", 6, 7, 8), ("lbu", 5, 7, 8), ("exit", 6),
        ]
        image = image_of(code)
        pair = first_book(image, whole=True)
        found = reuse(image, *pair)
        lines = [do(instruction, 4 * k) for k, instruction in enumerate(code[:8])]
        lines[2] = do(("add", 2, 1, 0), 8)
        lines[4] = do(("add", 4, 3, 0), 16)
        lines[6] = do(("add", 6, 5, 0), 24)
        self.assertEqual(body_of(found), tuple(lines))
        self.assertEqual(found[1], pair[1])
        self.assertEqual(reuse(image, *found), found)

    def test_the_least_register(self):
        code = [("get", 9), ("lw", 5, 9, 0), ("addi", 3, 5, 0), ("addi", 8, 5, 0), ("lw", 4, 9, 0), ("lw", 3, 9, 0), ("exit", 3)]
        image = image_of(code)
        found = body_of(reuse(image, *first_book(image)))
        self.assertEqual(found[4:], (do(("add", 4, 3, 0), 16), do(("add", 3, 3, 0), 20)))

    def test_the_word_0(self):
        image = image_of([("get", 9), ("sw", 0, 9, 0), ("lw", 2, 9, 0), ("exit", 2)])
        self.assertEqual(body_of(reuse(image, *first_book(image)))[2], do(("add", 2, 0, 0), 8))
        # In the first block of an image other registers hold 0, too.
        image = image_of([("get", 9), ("sw", 5, 9, 0), ("lw", 2, 9, 0), ("exit", 2)])
        self.assertEqual(body_of(reuse(image, *first_book(image)))[2], do(("add", 2, 0, 0), 8))
        self.assertEqual(body_of(reuse(image, *first_book(image, whole=True)))[2], do(("add", 2, 5, 0), 8))

    def test_no_register_has_the_value_any_more(self):
        image = image_of([("get", 9), ("lw", 1, 9, 0), ("get", 1), ("lw", 2, 9, 0), ("exit", 2)])
        self.assertEqual(reuse(image, *first_book(image)), first_book(image))

    def test_a_byte_of_what_is_stored(self):
        image = image_of([("get", 9), ("get", 1), ("sb", 1, 9, 0), ("lbu", 2, 9, 0), ("exit", 2)])
        self.assertEqual(reuse(image, *first_book(image)), first_book(image))
        image = image_of([("get", 9), ("get", 1), ("andi", 3, 1, 255), ("sb", 1, 9, 0), ("lbu", 2, 9, 0), ("exit", 2)])
        self.assertEqual(body_of(reuse(image, *first_book(image)))[4], do(("add", 2, 3, 0), 16))

    def test_loads_that_are_not_quiet(self):
        pair = first_book(MEMORY)
        found = reuse(MEMORY, *pair)
        self.assertEqual(body_of(found), (*body_of(pair)[:2], do(("add", 2, 1, 0), 8), *body_of(pair)[3:]))

    def test_amounts(self):
        code = [("get", 7), ("lw", 1, 7, 0), ("lw", 2, 7, 0), ("lw", 3, 7, 0), ("jal", 0, 1), ("lw", 1, 7, 0), ("lw", 2, 7, 0), ("exit", 6)]
        image = image_of(code)
        pair = first_book(image)
        moves = [line[1][0] == "add" for _, body, _ in reuse(image, *pair)[0][0] for line in body]
        self.assertEqual(moves, [False, False, True, True, False, True])
        self.assertEqual(reuse(image, *pair, amount=0), pair)
        for amount in (1, 2, 3, 10 ** 6):
            lines = [line for _, body, _ in reuse(image, *pair, amount=amount)[0][0] for line in body]
            self.assertEqual([line[1][0] for line in lines].count("add"), min(3, amount))
            self.assertEqual(lines[2], do(("add", 2, 1, 0), 8))

    def test_fixed_images(self):
        for image in FIXED:
            for whole in (False, True):
                pair = reuse(image, *first_book(image, whole=whole))
                self.assertIs(check(image, *pair), True)

    def test_chance_images(self):
        self.check_random(reuse, 5000)


if __name__ == "__main__":
    unittest.main()
