import unittest

from helpers import bytes_of, code_segment, constant_segment, data_segment, image_of
from restitch.codes import encode
from restitch.memory import (
    can_fetch, can_load, can_store, find_segment, image_faults, load_word, store_word, word_at,
)

FOUR = (1, 2, 3, 4)


def faults(*segments, symbols=()):
    return image_faults((segments, 0, symbols))


def plain(address, count=4):
    return (address, (0,) * count, False, False)


def symbol_faults(*symbols):
    return faults(plain(0), symbols=symbols)


class WithoutFaults(unittest.TestCase):
    def test_an_image_without_faults(self):
        image = (
            (
                (0, FOUR, False, True), (64, FOUR * 2, True, False), (72, FOUR, False, False),
                (4096, (255,) * 400, True, False),
            ),
            64,
            ((0, "start"), (64, "a"), (64, "b_1"), (2 ** 32 - 1, "end")),
        )
        found = image_faults(image)
        self.assertEqual(found, [])
        self.assertIsInstance(found, list)

    def test_any_word_is_an_entry(self):
        for entry in (0, 1, 2, 64, 2 ** 31, 2 ** 32 - 1):
            self.assertEqual(image_faults(((plain(0),), entry, ())), [])

    def test_each_choice_of_flags_but_both(self):
        for writable, executable in ((False, False), (False, True), (True, False)):
            self.assertEqual(faults((0, FOUR, writable, executable)), [])

    def test_segments_that_touch(self):
        self.assertEqual(faults(plain(0, 8), plain(8), plain(12)), [])

    def test_the_image_stays_as_it_was(self):
        image = ((plain(8), plain(4)), 0, ((5, "b"), (4, "a")))
        image_faults(image)
        self.assertEqual(image, ((plain(8), plain(4)), 0, ((5, "b"), (4, "a"))))


class SegmentFaults(unittest.TestCase):
    def only_segment(self, *segment):
        self.assertEqual(faults(segment), ["segment"], segment)

    def test_addresses(self):
        for address in (0, 4, 2 ** 31, 2 ** 32 - 4):
            self.assertEqual(faults(plain(address)), [])
        for address in (1, 2, 3, 5, 2 ** 32 - 5, -4, -1):
            self.only_segment(address, FOUR, False, False)
        self.assertIn("segment", faults(plain(2 ** 32)))
        self.assertIn("segment", faults(plain(2 ** 32 - 2)))

    def test_addresses_of_another_kind(self):
        for address in (True, False, None, "0", "", (0,), [0], ()):
            self.only_segment(address, FOUR, False, False)

    def test_lengths(self):
        for count in (4, 8, 12, 400):
            self.assertEqual(faults(plain(0, count)), [])
        for count in (0, 1, 2, 3, 5, 6, 7, 9, 401):
            self.only_segment(0, (0,) * count, False, False)

    def test_bytes(self):
        self.assertEqual(faults((0, (0, 1, 254, 255), False, False)), [])
        for value in (-1, 256, 1000, True, False, None, "0", "a", (0,), [0]):
            for place in range(4):
                values = [0, 0, 0, 0]
                values[place] = value
                self.only_segment(0, tuple(values), False, False)

    def test_values_of_another_kind(self):
        for values in ([0, 0, 0, 0], "abcd", None, 4, True, b"abcd"):
            self.only_segment(0, values, False, False)

    def test_integers_are_no_flags(self):
        for wrong in (0, 1, None, "", "True", (), [True]):
            self.only_segment(0, FOUR, wrong, False)
            self.only_segment(0, FOUR, False, wrong)
            self.only_segment(0, FOUR, wrong, wrong)
            self.only_segment(0, FOUR, True, wrong)
            self.only_segment(0, FOUR, wrong, True)

    def test_segments_that_are_no_rows_of_four(self):
        for wrong in (
            [0, FOUR, False, False], (), (0,), (0, FOUR), (0, FOUR, False),
            (0, FOUR, False, False, False), None, 0, True, "abcd",
        ):
            self.assertEqual(faults(wrong), ["segment"], wrong)
            self.assertEqual(faults(plain(0), wrong, plain(8)), ["segment"], wrong)

    def test_segments_that_are_no_tuple(self):
        for wrong in ([plain(0)], None, 3, "abc", True):
            self.assertEqual(image_faults((wrong, 0, ())), ["segment"])

    def test_an_image_of_another_form(self):
        for wrong in (None, 5, "abc", (), ((plain(0),), 0), [(plain(0),), 0, ()], ((plain(0),), 0, (), 0)):
            self.assertEqual(image_faults(wrong), ["segment"])

    def test_one_of_several_segments(self):
        self.assertEqual(faults(plain(0), plain(8, 5), plain(16)), ["segment"])
        self.assertEqual(faults(plain(0), plain(8), plain(17)), ["segment"])
        self.assertEqual(faults((0, FOUR, 0, False), plain(8), plain(16)), ["segment"])


class OrderFaults(unittest.TestCase):
    def test_not_ascending(self):
        self.assertEqual(faults(plain(8), plain(0)), ["order"])
        self.assertEqual(faults(plain(0), plain(16), plain(8)), ["order"])
        self.assertEqual(faults(plain(8), plain(0), plain(16)), ["order"])

    def test_sharing_an_address(self):
        self.assertEqual(faults(plain(0), plain(0)), ["order"])
        self.assertEqual(faults(plain(0, 8), plain(4)), ["order"])
        self.assertEqual(faults(plain(0, 8), plain(4, 100)), ["order"])
        self.assertEqual(faults(plain(0), plain(8, 12), plain(16)), ["order"])
        self.assertEqual(faults(plain(0, 400), plain(4), plain(8)), ["order"])


class SizeFaults(unittest.TestCase):
    def test_the_number_of_segments(self):
        rows = [plain(8 * k) for k in range(17)]
        self.assertEqual(faults(*rows[:1]), [])
        self.assertEqual(faults(*rows[:16]), [])
        self.assertEqual(faults(*rows), ["size"])
        self.assertEqual(faults(), ["size"])

    def test_the_sum_of_the_lengths(self):
        self.assertEqual(faults(plain(0, 65536)), [])
        self.assertEqual(faults(plain(0, 65540)), ["size"])
        self.assertEqual(faults(plain(0, 65537)), ["segment", "size"])
        self.assertEqual(faults(plain(0, 32768), plain(2 ** 20, 32768)), [])
        self.assertEqual(faults(plain(0, 32768), plain(2 ** 20, 32772)), ["size"])
        self.assertEqual(faults(plain(0, 65536), plain(2 ** 20)), ["size"])
        rows = [plain(65536 * k, 4096) for k in range(16)]
        self.assertEqual(faults(*rows), [])
        self.assertEqual(faults(*rows[:15], plain(65536 * 15, 4100)), ["size"])

    def test_the_end_of_the_last_segment(self):
        self.assertEqual(faults(plain(2 ** 32 - 4)), [])
        self.assertEqual(faults(plain(0), plain(2 ** 32 - 65532, 65532)), [])
        self.assertEqual(faults(plain(2 ** 32 - 4, 8)), ["size"])
        self.assertEqual(faults(plain(2 ** 32 - 400, 404)), ["size"])
        self.assertEqual(faults(plain(0), plain(2 ** 32 - 8, 12)), ["size"])


class BothFaults(unittest.TestCase):
    def test_writable_and_executable(self):
        self.assertEqual(faults((0, FOUR, True, True)), ["both"])
        self.assertEqual(faults(plain(0), (8, FOUR, True, True), plain(16)), ["both"])
        self.assertEqual(faults((0, FOUR, True, True), (8, FOUR, True, True)), ["both"])

    def test_two_segments_that_are_one_each(self):
        self.assertEqual(faults((0, FOUR, True, False), (8, FOUR, False, True)), [])


class SymbolFaults(unittest.TestCase):
    def test_names(self):
        for name in ("a", "z", "ab", "a0", "a9", "a_", "z_9_z", "a" * 30, "abcdefghijklmnopqrstuvwxyz", "a_0123456789"):
            self.assertEqual(symbol_faults((0, name)), [], name)
        for name in (
            "", "0", "9a", "_", "_a", "A", "aA", "a b", "a-b", "a.b", "a" * 31, "a" * 32, "a\n", " a",
            "a ", "\u00e9", "a\u00e9", "a\u0663", "a\u00b2",
        ):
            self.assertEqual(symbol_faults((0, name)), ["symbol"], name)

    def test_names_of_another_kind(self):
        for name in (None, 0, True, ("a",), ["a"], b"a"):
            self.assertEqual(symbol_faults((0, name)), ["symbol"])

    def test_addresses(self):
        for address in (0, 1, 2, 3, 2 ** 31, 2 ** 32 - 1):
            self.assertEqual(symbol_faults((address, "a")), [])
        for address in (-1, 2 ** 32, True, False, None, "0", (0,)):
            self.assertEqual(symbol_faults((address, "a")), ["symbol"])

    def test_order(self):
        self.assertEqual(symbol_faults((0, "b"), (1, "a")), [])
        self.assertEqual(symbol_faults((4, "a"), (4, "ab"), (4, "b")), [])
        self.assertEqual(symbol_faults((4, "a"), (0, "b")), ["symbol"])
        self.assertEqual(symbol_faults((4, "b"), (4, "a")), ["symbol"])
        self.assertEqual(symbol_faults((0, "a"), (8, "b"), (4, "c")), ["symbol"])
        # "Ascending" does not say "each once": the same pair may stand twice.
        self.assertEqual(symbol_faults((4, "a"), (4, "a")), [])

    def test_pairs_of_another_form(self):
        for pair in ((), (0,), (0, "a", "b"), [0, "a"], "0a", None, 0, ("a", 0)):
            self.assertEqual(symbol_faults(pair), ["symbol"])
            self.assertEqual(symbol_faults((0, "a"), pair, (8, "b")), ["symbol"])

    def test_symbols_that_are_no_tuple(self):
        for wrong in ([], [(0, "a")], None, 0, "", "a", True):
            self.assertEqual(image_faults(((plain(0),), 0, wrong)), ["symbol"])


class SeveralFaults(unittest.TestCase):
    def test_two(self):
        self.assertEqual(faults((8, FOUR, True, True), plain(0)), ["both", "order"])
        self.assertEqual(faults((0, (), True, True)), ["both", "segment"])
        self.assertEqual(faults(symbols=((0, ""),)), ["size", "symbol"])
        self.assertEqual(faults(plain(8), plain(2)), ["order", "segment"])
        self.assertEqual(faults((8, None, False, False), plain(4)), ["order", "segment"])
        self.assertEqual(faults(plain(8, 0), plain(8)), ["order", "segment"])
        self.assertEqual(faults(plain(2 ** 32)), ["segment", "size"])
        self.assertEqual(faults(plain(2 ** 32 - 4, 8), plain(0)), ["order", "size"])

    def test_each_code_once(self):
        self.assertEqual(faults(plain(1), plain(9, 3), (16, 0, 0, 0)), ["segment"])
        self.assertEqual(faults(plain(16), plain(8), plain(0)), ["order"])
        self.assertEqual(symbol_faults((-1, ""), (0, "A"), (0, "")), ["symbol"])
        rows = [plain(2 ** 32 - 4 * k, 65536) for k in range(20, 0, -1)]
        self.assertEqual(faults(*rows), ["order", "size"])

    def test_all_five_ascending(self):
        segments = ((8, FOUR, True, True), plain(4, 65540), plain(70000, 3))
        self.assertEqual(
            image_faults((segments, 0, ((0, "_"),))), ["both", "order", "segment", "size", "symbol"]
        )


# 16..27 executable, 28..35 constant (touching it), 48..55 writable, 56..59 writable (touching).
IMAGE = (
    (
        (16, tuple(range(12)), False, True), (28, tuple(range(100, 108)), False, False),
        (48, (0x78, 0x56, 0x34, 0x12, 0xFF, 0xFE, 0x80, 0x81), True, False), (56, (9, 8, 7, 6), True, False),
    ),
    16,
    (),
)
MEMORY = tuple(segment[1] for segment in IMAGE[0])


class FindSegment(unittest.TestCase):
    def test_one_byte(self):
        wanted = {
            15: -1, 16: 0, 27: 0, 28: 1, 35: 1, 36: -1, 47: -1, 48: 2, 55: 2, 56: 3, 59: 3, 60: -1,
            0: -1, 2 ** 32 - 1: -1,
        }
        for address, index in wanted.items():
            self.assertEqual(find_segment(IMAGE, address, 1), index, address)

    def test_four_bytes(self):
        wanted = {
            12: -1, 13: -1, 15: -1, 16: 0, 17: 0, 24: 0, 25: -1, 26: -1, 27: -1, 28: 1, 32: 1, 33: -1,
            36: -1, 44: -1, 45: -1, 47: -1, 48: 2, 52: 2, 53: -1, 55: -1, 56: 3, 57: -1, 60: -1,
            2 ** 32 - 1: -1,
        }
        for address, index in wanted.items():
            self.assertEqual(find_segment(IMAGE, address, 4), index, address)

    def test_other_counts(self):
        self.assertEqual(find_segment(IMAGE, 16, 12), 0)
        self.assertEqual(find_segment(IMAGE, 16, 13), -1)
        self.assertEqual(find_segment(IMAGE, 54, 2), 2)
        self.assertEqual(find_segment(IMAGE, 55, 2), -1)

    def test_the_ends_of_the_addresses(self):
        image = ((plain(0), plain(2 ** 32 - 4)), 0, ())
        self.assertEqual(find_segment(image, 0, 4), 0)
        self.assertEqual(find_segment(image, 2 ** 32 - 4, 4), 1)
        self.assertEqual(find_segment(image, 2 ** 32 - 1, 1), 1)
        self.assertEqual(find_segment(image, 2 ** 32 - 3, 4), -1)
        self.assertEqual(find_segment(image, 2 ** 32, 1), -1)
        self.assertEqual(find_segment(image, -1, 1), -1)


class Allowed(unittest.TestCase):
    def check(self, function, allowed, *rest):
        """The function is True at just these of all addresses around."""
        for address in range(0, 80):
            self.assertIs(function(IMAGE, address, *rest), address in allowed, (address, *rest))

    def test_loads_of_a_byte(self):
        self.check(can_load, {*range(16, 36), *range(48, 60)}, 1)

    def test_loads_of_a_word(self):
        self.check(can_load, {16, 20, 24, 28, 32, 48, 52, 56}, 4)

    def test_stores_of_a_byte(self):
        self.check(can_store, set(range(48, 60)), 1)

    def test_stores_of_a_word(self):
        self.check(can_store, {48, 52, 56}, 4)

    def test_fetches(self):
        self.check(can_fetch, {16, 20, 24})

    def test_the_ends_of_the_addresses(self):
        image = (((0, FOUR, True, False), (2 ** 32 - 4, FOUR, False, True)), 0, ())
        self.assertIs(can_fetch(image, 2 ** 32 - 4), True)
        self.assertIs(can_fetch(image, 0), False)
        self.assertIs(can_fetch(image, 2 ** 32 - 8), False)
        self.assertIs(can_load(image, 2 ** 32 - 1, 1), True)
        self.assertIs(can_load(image, 2 ** 32 - 1, 4), False)
        self.assertIs(can_store(image, 0, 4), True)
        self.assertIs(can_store(image, 3, 1), True)
        self.assertIs(can_store(image, 2 ** 32 - 4, 4), False)

    def test_words_across_two_executable_segments(self):
        image = ((code_segment(0, [("get", 1)]), code_segment(4, [("get", 2)])), 0, ())
        self.assertEqual([k for k in range(9) if can_fetch(image, k)], [0, 4])
        self.assertEqual([k for k in range(9) if can_load(image, k, 4)], [0, 4])


class Loading(unittest.TestCase):
    def test_words_lowest_byte_first(self):
        self.assertEqual(load_word(IMAGE, MEMORY, 48, 4), 0x12345678)
        self.assertEqual(load_word(IMAGE, MEMORY, 52, 4), 0x8180FEFF)
        self.assertEqual(load_word(IMAGE, MEMORY, 56, 4), 0x06070809)
        self.assertEqual(load_word(IMAGE, MEMORY, 16, 4), 0x03020100)
        self.assertEqual(load_word(IMAGE, MEMORY, 32, 4), 0x6B6A6968)

    def test_bytes(self):
        self.assertEqual([load_word(IMAGE, MEMORY, 48 + k, 1) for k in range(12)], list(MEMORY[2] + MEMORY[3]))
        self.assertEqual(load_word(IMAGE, MEMORY, 27, 1), 11)
        self.assertEqual(load_word(IMAGE, MEMORY, 28, 1), 100)

    def test_the_memory_counts_and_not_the_image(self):
        memory = (MEMORY[0], MEMORY[1], (1, 0, 0, 128, 5, 6, 7, 8), MEMORY[3])
        self.assertEqual(load_word(IMAGE, memory, 48, 4), 0x80000001)
        self.assertEqual(load_word(IMAGE, memory, 52, 1), 5)


class Storing(unittest.TestCase):
    def test_words_lowest_byte_first(self):
        found = store_word(IMAGE, MEMORY, 48, 4, 0xA1B2C3D4)
        self.assertEqual(found, (MEMORY[0], MEMORY[1], (0xD4, 0xC3, 0xB2, 0xA1, 0xFF, 0xFE, 0x80, 0x81), MEMORY[3]))
        self.assertEqual(load_word(IMAGE, found, 48, 4), 0xA1B2C3D4)
        found = store_word(IMAGE, MEMORY, 52, 4, 1)
        self.assertEqual(found[2], (0x78, 0x56, 0x34, 0x12, 1, 0, 0, 0))
        found = store_word(IMAGE, MEMORY, 56, 4, 2 ** 32 - 1)
        self.assertEqual(found, (*MEMORY[:3], (255, 255, 255, 255)))

    def test_bytes(self):
        for address, index, offset in ((48, 2, 0), (53, 2, 5), (55, 2, 7), (56, 3, 0), (59, 3, 3)):
            found = store_word(IMAGE, MEMORY, address, 1, 42)
            wanted = [list(values) for values in MEMORY]
            wanted[index][offset] = 42
            self.assertEqual(found, tuple(tuple(values) for values in wanted))

    def test_a_byte_is_the_lowest_one_of_the_value(self):
        found = store_word(IMAGE, MEMORY, 57, 1, 0xA1B2C3D4)
        self.assertEqual(found[3], (9, 0xD4, 7, 6))

    def test_the_memory_stays_as_it_was(self):
        before = tuple(tuple(list(values)) for values in MEMORY)
        for count in (1, 4):
            found = store_word(IMAGE, MEMORY, 48, count, 0)
            self.assertNotEqual(found, MEMORY)
            self.assertEqual(MEMORY, before)
        self.assertEqual(IMAGE[0][2][1], before[2])

    def test_all_is_tuples(self):
        found = store_word(IMAGE, MEMORY, 48, 4, 0)
        self.assertIsInstance(found, tuple)
        for values in found:
            self.assertIsInstance(values, tuple)


class WordAt(unittest.TestCase):
    def test_words_of_code(self):
        code = [("addi", 1, 0, -1), ("exit", 1), 0]
        image = image_of(code, data_segment(64, FOUR), constant_segment(0, FOUR), address=16)
        self.assertEqual(word_at(image, 16), 943734783)
        self.assertEqual(word_at(image, 20), encode(("exit", 1)))
        self.assertEqual(word_at(image, 24), 0)

    def test_lowest_byte_first(self):
        image = (((8, (1, 2, 3, 4, 255, 254, 253, 252), False, True),), 8, ())
        self.assertEqual(word_at(image, 8), 0x04030201)
        self.assertEqual(word_at(image, 12), 0xFCFDFEFF)

    def test_the_bytes_are_those_of_the_words(self):
        self.assertEqual(bytes_of([0x04030201]), (1, 2, 3, 4))


if __name__ == "__main__":
    unittest.main()
