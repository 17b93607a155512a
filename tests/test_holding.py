import unittest

from helpers import TOP, ZERO, ZEROS, bytes_of, constant_segment, data_segment, facts_of, image_of, row, span
from restitch.holding import facts_at, holds_table, plain
from restitch.solve import solve

FREE = facts_of()
COUNT = [("addi", 1, 1, 1), ("andi", 1, 1, 3), ("jal", 0, -2)]
TABLE_CODE = [("get", 1), ("andi", 1, 1, 4), ("lw", 2, 1, 32), ("jalr", 0, 2, 0), 0, 0, ("exit", 1), ("exit", 0)]


def jump_image():
    return image_of(TABLE_CODE, constant_segment(32, bytes_of([24, 28])))


def with_fact(table, index, number, fact):
    """The table with one fact of one of its rows changed."""
    address, facts = table[index]
    changed = (address, (*facts[:number], fact, *facts[number + 1:]))
    return (*table[:index], changed, *table[index + 1:])


class Plain(unittest.TestCase):
    def test_all_places_without_facts(self):
        image = (
            (
                (0, (0,) * 8, False, True), (64, (0,) * 8, True, False), (72, (0,) * 8, False, False),
                (2 ** 32 - 4, (0,) * 4, False, True),
            ), 64, (),
        )
        self.assertEqual(plain(image), ((0, FREE), (4, FREE), (2 ** 32 - 4, FREE)))
        self.assertEqual(plain((image[0][1:3], 64, ())), ())

    def test_facts_at(self):
        image = image_of([0, 0, 0, 0, 0])
        table = plain(image)
        for k in range(6):
            changed = with_fact(table, k, 1, row(k)) if k < 5 else table
            self.assertEqual(facts_at(changed, 4 * k), facts_of(r1=row(k)) if k < 5 else None)
        for address in (-1, 1, 2, 3, 5, 19, 20, TOP):
            self.assertIsNone(facts_at(table, address))
        self.assertIsNone(facts_at((), 0))


class Form(unittest.TestCase):
    """Values that are no tables, for an image of which any table with all places says nothing wrong."""

    IMAGE = image_of([("jal", 0, 0), ("exit", 0)])
    GOOD = plain(IMAGE)

    def refused(self, value):
        self.assertIs(holds_table(self.IMAGE, value), False)

    def test_the_good_one(self):
        self.assertIs(holds_table(self.IMAGE, self.GOOD), True)
        self.assertIs(holds_table(self.IMAGE, self.GOOD[:1]), True)

    def test_no_tuples(self):
        for value in (None, True, False, 0, 1, -5, "", "words", list(self.GOOD), "0" * 40, 2 ** 64):
            self.refused(value)

    def test_rows_that_are_no_pairs(self):
        address, facts = self.GOOD[0]
        for item in (
            None, 0, "ab", (), (address,), (address, facts, 0), (facts, address), list(self.GOOD[0]), (address, None),
            (address, ()), (address, "0123456789abcdef"), ((address, facts),),
        ):
            self.refused((item, self.GOOD[1]))
            self.refused((item,))

    def test_the_order(self):
        self.refused((self.GOOD[1], self.GOOD[0]))
        self.refused((self.GOOD[0], self.GOOD[0]))
        self.refused((*self.GOOD, self.GOOD[1]))

    def test_addresses_that_are_no_places(self):
        for address in (1, 2, 3, 5, 8, -4, TOP, 2 ** 32, 2 ** 32 + 4, None, "0", (0,), True, False):
            self.refused(((address, FREE),))
            self.refused((self.GOOD[0], (address, FREE)))

    def test_the_number_of_facts(self):
        for facts in (FREE[:15], (*FREE, None), (ZERO,), list(FREE)):
            self.refused(((0, facts), self.GOOD[1]))

    def test_register_0(self):
        for fact in (None, row(1), row(0, 1), span(0, 1), ("words", [0]), ("words", (False,)), ["words", (0,)], 0):
            self.refused(with_fact(self.GOOD, 0, 0, fact))

    def test_facts_of_another_form(self):
        for fact in (
            (), 0, "", "words", "range", True, False, ("words",), ("range",), ("words", (0,), 0), ("range", 0),
            ("range", 0, 1, 2), ("none",), ("word", (0,)), (row(0),), ("words", None), ("words", 0), ("words", "0"),
            ("words", [0]), (None, (0,)), (("words", (0,)), (0,)), (True, (0,)), ["range", 0, 1],
        ):
            for number in (1, 15):
                self.refused(with_fact(self.GOOD, 0, number, fact))
                self.refused(with_fact(self.GOOD, 1, number, fact))

    def test_rows(self):
        for words in (
            (), tuple(range(17)), (1, 0), (0, 0), (0, 2, 1), (-1, 0), (0, 2 ** 32), (0, True), (False, 1), (False,), (True,),
            (0, None), ("0",), ((0,),),
        ):
            self.refused(with_fact(self.GOOD, 0, 1, ("words", words)))
        # The entry's facts allow 0 here, and all of these are wide enough for the loop of one word.
        for words in ((0,), tuple(range(16)), (0, TOP)):
            self.assertTrue(holds_table(self.IMAGE, with_fact(self.GOOD, 0, 1, row(*words))[:1]))

    def test_ranges(self):
        for low, high in (
            (0, 0), (5, 5), (1, 0), (-1, 5), (0, 2 ** 32), (False, 1), (0, True), (None, 1), (0, None), ("0", "1"), (0, (1,)),
        ):
            self.refused(with_fact(self.GOOD, 0, 1, ("range", low, high)))
        for low, high in ((0, 1), (0, TOP), (0, TOP - 1)):
            self.assertTrue(holds_table(self.IMAGE, with_fact(self.GOOD, 0, 1, span(low, high))[:1]))

    def test_values_nested_deep(self):
        value = ()
        for _ in range(58):
            value = (value,)
            self.refused(value)
            self.refused(((0, value),))
            self.refused(((0, (ZERO, *[value] * 15)),))


class Entry(unittest.TestCase):
    IMAGE = image_of([("exit", 0), ("exit", 0)])

    def test_it_must_be_there(self):
        table = plain(self.IMAGE)
        self.assertFalse(holds_table(self.IMAGE, ()))
        self.assertFalse(holds_table(self.IMAGE, table[1:]))
        self.assertTrue(holds_table(self.IMAGE, table[:1]))

    def test_its_facts_must_allow_0(self):
        table = plain(self.IMAGE)
        for number in (1, 8, 15):
            for fact in (row(1), row(1, 2), span(1, TOP), span(1, 2)):
                self.assertFalse(holds_table(self.IMAGE, with_fact(table, 0, number, fact)))
                self.assertTrue(holds_table(self.IMAGE, with_fact(table, 1, number, fact)))
            for fact in (row(0), row(0, 9), span(0, 1)):
                self.assertTrue(holds_table(self.IMAGE, with_fact(table, 0, number, fact)))

    def test_an_entry_that_is_no_place(self):
        for entry in (2, 8, 64, TOP):
            image = (self.IMAGE[0], entry, ())
            for table in ((), plain(image), plain(image)[1:], ((4, facts_of(r1=row(5))),)):
                self.assertTrue(holds_table(image, table))
        data = ((data_segment(0, (0,) * 4),), 0, ())
        self.assertTrue(holds_table(data, ()))
        self.assertFalse(holds_table(data, ((0, FREE),)))


class Holds(unittest.TestCase):
    def test_plain_and_solved_ones(self):
        for code in (COUNT, TABLE_CODE, [0], [("jal", 0, 0)], [("beq", 1, 2, 9), ("jalr", 0, 3, 0)]):
            image = image_of(code, constant_segment(64, bytes_of([24, 28])))
            self.assertTrue(holds_table(image, plain(image)))
            self.assertTrue(holds_table(image, solve(image)))

    def test_wider_facts(self):
        image = jump_image()
        table = solve(image)
        self.assertEqual([address for address, _ in table], [0, 4, 8, 12, 24, 28])
        for index in range(6):
            for number in range(3, 16):
                for fact in (None, row(0, 7), span(0, 7)):
                    # Wider at one place is too wide behind it, but not at the two last ones.
                    self.assertEqual(holds_table(image, with_fact(table, index, number, fact)), index > 3)
        wide = table
        for index in range(6):
            wide = with_fact(wide, index, 5, span(0, 7))
        self.assertTrue(holds_table(image, wide))

    def test_facts_that_are_not_within(self):
        image = image_of(COUNT)
        table = solve(image)
        self.assertEqual(table[2][1][1], row(0, 1, 2, 3))
        self.assertTrue(holds_table(image, table))
        for index in range(3):
            for fact in (row(0), row(0, 1, 2), span(0, 2)):
                self.assertFalse(holds_table(image, with_fact(table, index, 1, fact)))
            self.assertFalse(holds_table(image, with_fact(table, index, 2, row(1))))

    def test_facts_that_are_written_as_a_range(self):
        image = image_of(COUNT)
        table = solve(image)
        self.assertTrue(holds_table(image, with_fact(table, 2, 1, span(0, 3))))

    def test_a_way_to_a_place_that_is_missing(self):
        image = jump_image()
        table = solve(image)
        for index in range(1, 6):
            self.assertFalse(holds_table(image, (*table[:index], *table[index + 1:])))

    def test_a_way_to_an_address_that_is_no_place(self):
        image = image_of([("jal", 0, 100)])
        self.assertTrue(holds_table(image, plain(image)))
        image = image_of([("addi", 1, 1, 1)])
        self.assertTrue(holds_table(image, plain(image)))

    def test_more_places_than_a_run_reaches(self):
        image = jump_image()
        table = tuple(sorted([*solve(image), (20, facts_of(r1=row(9)))]))
        self.assertTrue(holds_table(image, table))
        # Nothing goes on from there to a place that is missing.
        image = image_of([("exit", 0), ("jal", 0, 1), ("exit", 0)])
        self.assertTrue(holds_table(image, plain(image)[:1]))
        self.assertFalse(holds_table(image, plain(image)[:2]))
        self.assertTrue(holds_table(image, plain(image)))

    def test_ways_that_are_none(self):
        image = image_of([("get", 1), ("jalr", 0, 1, 0), ("exit", 0)])
        table = plain(image)
        self.assertTrue(holds_table(image, table))
        self.assertEqual(solve(image), table)
        self.assertFalse(holds_table(image, table[:2]))
        for index in range(3):
            for number in range(1, 16):
                for fact in (row(0), span(0, 7)):
                    self.assertFalse(holds_table(image, with_fact(table, index, number, fact)), (index, number))

    def test_a_jump_through_a_row_in_a_wider_table(self):
        # In plain the jump may lead anywhere, so nothing may be told of any place.
        image = jump_image()
        self.assertTrue(holds_table(image, plain(image)))
        self.assertFalse(holds_table(image, with_fact(plain(image), 6, 1, row(0, 4))))

    def test_arguments_stay_as_they_were(self):
        image = jump_image()
        table = solve(image)
        holds_table(image, table)
        plain(image)
        self.assertEqual((image, table), (jump_image(), solve(jump_image())))

    def test_the_start_says_nothing_of_other_rows(self):
        self.assertEqual(ZEROS, solve(jump_image())[0][1])


if __name__ == "__main__":
    unittest.main()
