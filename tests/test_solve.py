import random
import unittest

from helpers import ZERO, ZEROS, bytes_of, constant_segment, image_of, row
from restitch.holding import facts_at, holds_table, plain
from restitch.machine import GOES_ON, start, step
from restitch.solve import solve
from restitch.values import allows


def zeros_but(**known):
    return (ZERO, *[known.get(f"r{number}", ZERO) for number in range(1, 16)])


def counting(modulus):
    """A loop behind the entry in which r1 takes as many words as the modulus."""
    return image_of([
        ("addi", 2, 0, modulus), ("add", 3, 0, 0), ("addi", 1, 1, 1), ("remu", 1, 1, 2), ("jal", 0, -2),
    ])


class Solve(unittest.TestCase):
    def test_the_example(self):
        code = [("get", 1), ("andi", 1, 1, 4), ("lw", 2, 1, 32), ("jalr", 0, 2, 0), 0, 0, ("exit", 1), ("exit", 2)]
        image = image_of(code, constant_segment(32, bytes_of([24, 28])))
        jumped = zeros_but(r1=row(0, 4), r2=row(24, 28))
        self.assertEqual(solve(image), (
            (0, ZEROS), (4, zeros_but(r1=None)), (8, zeros_but(r1=row(0, 4))), (12, jumped), (24, jumped), (28, jumped),
        ))

    def test_it_starts_with_zeros(self):
        self.assertEqual(solve(image_of([("exit", 0)])), ((0, ZEROS),))
        self.assertEqual(solve(image_of([0])), ((0, ZEROS),))
        self.assertEqual(solve(image_of([("addi", 1, 1, 5), ("exit", 1)])), ((0, ZEROS), (4, zeros_but(r1=row(5)))))

    def test_code_that_nothing_leads_to(self):
        image = image_of([("beq", 1, 2, 2), ("exit", 1), ("jal", 0, 2), ("exit", 2), ("exit", 3)])
        self.assertEqual([address for address, _ in solve(image)], [0, 8, 16])

    def test_ways_to_addresses_that_are_no_places(self):
        self.assertEqual(solve(image_of([("jal", 3, 9)])), ((0, ZEROS),))
        self.assertEqual(solve(image_of([("get", 1)])), ((0, ZEROS),))

    def test_an_entry_that_is_no_place(self):
        for entry in (2, 4, 64, 2 ** 32 - 1):
            image = image_of([("exit", 0)], entry=entry)
            self.assertEqual(solve(image), ())
            self.assertTrue(holds_table(image, ()))

    def test_ways_that_meet(self):
        image = image_of([
            ("get", 1), ("beq", 1, 0, 3), ("addi", 2, 0, 5), ("jal", 0, 2), ("addi", 2, 0, 9), ("exit", 2),
        ])
        table = solve(image)
        self.assertEqual(facts_at(table, 20), zeros_but(r1=None, r2=row(5, 9)))
        self.assertEqual(facts_at(table, 16), zeros_but(r1=row(0)))

    def test_a_jump_of_any_target(self):
        image = image_of([("get", 1), ("jalr", 0, 1, 0), ("exit", 0)])
        self.assertEqual(solve(image), plain(image))
        image = image_of([("get", 1), ("andi", 1, 1, 31), ("jalr", 0, 1, 0), ("exit", 0)])
        self.assertEqual(solve(image), plain(image))

    def test_a_jump_of_any_target_that_nothing_leads_to(self):
        image = image_of([("exit", 0), ("get", 1), ("jalr", 0, 1, 0)])
        self.assertEqual(solve(image), ((0, ZEROS),))

    def test_calls_and_returns(self):
        image = image_of([
            ("jal", 15, 3), ("jal", 15, 2), ("exit", 0), ("addi", 1, 0, 7), ("jalr", 0, 15, 0),
        ])
        table = solve(image)
        self.assertEqual([address for address, _ in table], [0, 4, 8, 12, 16])
        self.assertEqual(facts_at(table, 12), zeros_but(r1=row(0, 7), r15=row(4, 8)))
        self.assertEqual(facts_at(table, 8), zeros_but(r1=row(7), r15=row(4, 8)))

    def test_a_short_count(self):
        for modulus in (2, 3, 7):
            table = solve(counting(modulus))
            self.assertEqual(facts_at(table, 8), zeros_but(r1=row(*range(modulus)), r2=row(modulus)))
            self.assertEqual(facts_at(table, 12), zeros_but(r1=row(*range(1, modulus + 1)), r2=row(modulus)))

    def test_the_7th_change(self):
        # Of seven words one is there at first, and six are changes; the eighth is the 7th change.
        self.assertEqual(facts_at(solve(counting(7)), 8)[1], row(*range(7)))
        self.assertIsNone(facts_at(solve(counting(8)), 8)[1])
        self.assertIsNone(facts_at(solve(counting(8)), 12)[1])
        self.assertIsNone(facts_at(solve(counting(8)), 16)[1])

    def test_the_7th_change_leaves_registers_that_do_not_change_then(self):
        table = solve(counting(1000))
        self.assertEqual(facts_at(table, 8), zeros_but(r1=None, r2=row(1000)))

    def test_a_count_without_an_end(self):
        table = solve(image_of([("addi", 1, 1, 1), ("jal", 0, -1)]))
        self.assertEqual(table, ((0, zeros_but(r1=None)), (4, zeros_but(r1=None))))

    def test_changes_behind_the_7th_are_joins(self):
        # r2 only counts where r1 may be 64, so not ahead of the 7th change, which makes r1 None.
        image = image_of([
            ("addi", 1, 1, 1), ("andi", 4, 1, 64), ("beq", 4, 0, 3), ("addi", 2, 2, 1), ("andi", 2, 2, 3), ("jal", 0, -5),
        ])
        table = solve(image)
        self.assertEqual(facts_at(table, 0), zeros_but(r1=None, r2=row(0, 1, 2, 3), r4=None))
        self.assertTrue(holds_table(image, table))

    def test_too_many_steps(self):
        # Each turn of the loop, which is as long as it may be, comes back with one word more.
        image = image_of([("addi", 1, 1, 1)] * 16383 + [("jal", 0, -16383)])
        self.assertEqual(solve(image), plain(image))

    def test_a_hundred_thousand_steps(self):
        # Seven turns of a loop of 14285 words, and one step for each word ahead of it.
        for ahead, enough in ((5, True), (6, False)):
            image = image_of([
                *[("addi", 2, 0, 7)] * ahead, ("addi", 1, 1, 1), ("remu", 1, 1, 2), *[("put", 1)] * 14282, ("jal", 0, -14284),
            ])
            table = solve(image)
            self.assertIs(table != plain(image), enough)
            self.assertEqual(facts_at(table, 4 * ahead)[1], row(*range(7)) if enough else None)

    def test_the_image_stays_as_it_was(self):
        image = counting(5)
        solve(image)
        self.assertEqual(image, counting(5))


class Runs(unittest.TestCase):
    """Whatever the image, the table holds, and runs keep to it."""

    OPS = ("addi", "andi", "ori", "xori", "shli", "shri", "slti", "lw", "lbu", "sw", "sb")

    def code(self, chance, count):
        found = []
        for place in range(count):
            kind = chance.random()
            ra, rb = chance.randrange(5), chance.randrange(5)
            near = chance.randint(-place, count - 1 - place)
            if kind < 0.25:
                found.append((chance.choice(("beq", "bne", "blt", "bltu", "bgeu")), ra, rb, near))
            elif kind < 0.35:
                found.append(("jal", chance.choice((0, 4)), near))
            elif kind < 0.42:
                found.append(("jalr", chance.choice((0, 4)), 4, 0))
            elif kind < 0.5:
                found.append(chance.choice((("get", ra), ("put", ra), ("exit", ra), 0)))
            elif kind < 0.6:
                found.append((chance.choice(("add", "sub", "and", "divu", "remu", "sltu")), ra, rb, chance.randrange(5)))
            else:
                found.append((chance.choice(self.OPS), ra, rb, chance.choice((0, 1, 4, 7, 64, -1))))
        return found

    def test_random_images(self):
        chance = random.Random(3)
        for _ in range(150):
            count = chance.randint(2, 16)
            others = (constant_segment(64, bytes_of([0, 4, 8, 4])), (128, (0,) * 8, True, False))
            image = image_of(self.code(chance, count), *others)
            table = solve(image)
            self.assertTrue(holds_table(image, table))
            rows = dict(table)
            state = start(image)
            for _ in range(60):
                if state[1] in rows:
                    self.assertTrue(all(allows(fact, word) for fact, word in zip(rows[state[1]], state[0])))
                state = step(image, [3, 0, 200], state)
                if state[5] != GOES_ON:
                    break
                if 0 <= state[1] < 4 * count and state[1] % 4 == 0:
                    self.assertIn(state[1], rows)


if __name__ == "__main__":
    unittest.main()
