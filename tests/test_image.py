import copy
import unittest

from helpers import TOP, bytes_of
from restitch.errors import ImageError
from restitch.image import pack_image, unpack_image
from restitch.memory import image_faults

MAGIC = 1381257300
ONE = (((64, (1, 2, 3, 4), False, True),), 64, ())
SEVERAL = (
    (
        (0, (255,) * 8, True, False), (8, (0,) * 4, False, False), (4096, tuple(range(16)), False, True),
        (2 ** 32 - 4, (9, 8, 7, 6), False, False),
    ),
    TOP,
    ((0, "a"), (8, "abc"), (8, "abcd"), (8, "abcde"), (9, "a_1b2"), (TOP, "z" * 30)),
)
# The indices of the items of ONE with one symbol, and of its two.
SYMBOLS = (((64, (1, 2, 3, 4), False, True),), 64, ((5, "ab"), (5, "b")))


def packed(*words):
    return list(bytes_of(words))


class Pack(unittest.TestCase):
    def test_the_bytes_of_an_image(self):
        self.assertEqual(pack_image(ONE), packed(MAGIC, 64, 1, 64, 4, 2, 0x04030201, 0))

    def test_flags(self):
        for writable, executable, flags in ((False, False, 0), (True, False, 1), (False, True, 2)):
            image = (((0, (0,) * 4, writable, executable),), 0, ())
            self.assertEqual(pack_image(image)[20:24], packed(flags))

    def test_names_are_filled_up(self):
        for name, behind in (("a", 3), ("abc", 1), ("abcd", 0), ("abcde", 3), ("a" * 30, 2)):
            image = (ONE[0], 64, ((7, name),))
            wanted = packed(MAGIC, 64, 1, 64, 4, 2, 0x04030201, 1, 7, len(name))
            self.assertEqual(pack_image(image), wanted + [ord(sign) for sign in name] + [0] * behind)

    def test_pack_is_a_list_of_bytes(self):
        found = pack_image(SEVERAL)
        self.assertIsInstance(found, list)
        self.assertTrue(all(0 <= value <= 255 for value in found))


class There(unittest.TestCase):
    def test_there_and_back(self):
        most = tuple((16 * k, (k,) * 4, False, False) for k in range(16))
        large = ((0, (7,) * 65532, True, False), (70000, (1,) * 4, False, True))
        for image in (
            ONE, SEVERAL, SYMBOLS, (most, 0, ()), (large, 5, ()), (ONE[0], 0, ((1, "a"), (1, "a"))),
            (ONE[0], 0, tuple((k, "n" + str(k)) for k in range(300))),
        ):
            self.assertEqual(image_faults(image), [])
            found = unpack_image(pack_image(image))
            self.assertEqual(found, image)
            self.assertEqual(image_faults(found), [])
            for segment in found[0]:
                self.assertIs(type(segment[1]), tuple)
                self.assertIs(type(segment[2]), bool)
                self.assertIs(type(segment[3]), bool)

    def test_arguments_stay_as_they_were(self):
        data = pack_image(SEVERAL)
        kept = copy.deepcopy(data)
        unpack_image(data)
        self.assertEqual(data, kept)


class Wrong(unittest.TestCase):
    def fails(self, data, at):
        with self.assertRaises(ImageError) as caught:
            unpack_image(data)
        self.assertEqual(caught.exception.at, at)

    def changed(self, image, at, word):
        """The bytes of an image with the word from an index on changed."""
        data = pack_image(image)
        data[at:at + 4] = packed(word)
        return data

    def test_the_first_word(self):
        for word in (0, MAGIC + 1, MAGIC - 1, TOP):
            self.fails(self.changed(ONE, 0, word), 0)

    def test_any_entry(self):
        for entry in (0, 1, TOP):
            self.assertEqual(unpack_image(self.changed(ONE, 4, entry)), (ONE[0], entry, ()))

    def test_the_number_of_segments(self):
        for many in (0, 17, TOP):
            self.fails(self.changed(ONE, 8, many), 8)
        data = packed(MAGIC, 0, 17)
        for k in range(17):
            data += packed(16 * k, 4, 0, 0)
        self.fails(data + packed(0), 8)

    def test_addresses(self):
        for address in (1, 2, 3, 65, TOP):
            self.fails(self.changed(ONE, 12, address), 12)
        two = packed(MAGIC, 0, 2, 64, 8, 0, 0, 0)
        for address in (0, 60, 64, 68):
            self.fails(two + packed(address, 4, 0, 0, 0), 32)
        for address in (72, 76, 2 ** 32 - 4):
            self.assertEqual(unpack_image(two + packed(address, 4, 0, 0, 0))[0][1][0], address)

    def test_an_address_that_brings_the_bytes_beyond_the_last_one(self):
        self.fails(packed(MAGIC, 0, 1, 2 ** 32 - 4, 8, 0, 0, 0, 0), 12)
        self.fails(packed(MAGIC, 0, 1, 2 ** 32 - 4, 8), 12)
        self.assertEqual(unpack_image(packed(MAGIC, 0, 1, 2 ** 32 - 8, 8, 0, 0, 0, 0))[0][0][0], 2 ** 32 - 8)

    def test_lengths(self):
        for length in (0, 1, 2, 3, 5, 6, 65540, 2 ** 31, TOP, 2 ** 32 - 4):
            self.fails(self.changed(ONE, 16, length), 16)
        two = packed(MAGIC, 0, 2, 0, 65532, 0) + [0] * 65532
        self.fails(two + packed(70000, 8, 0, 0, 0, 0), 24 + 65532 + 4)
        self.assertEqual(len(unpack_image(two + packed(70000, 4, 0, 0, 0))[0]), 2)

    def test_an_address_is_told_ahead_of_a_length(self):
        self.fails(packed(MAGIC, 0, 1, 2, 0, 9, 0), 12)
        self.fails(packed(MAGIC, 0, 1, 2), 12)
        self.fails(packed(MAGIC, 0, 1, 2 ** 32 - 4, 0), 16)

    def test_flags(self):
        for flags in (3, 4, 256, TOP):
            self.fails(self.changed(ONE, 20, flags), 20)

    def test_addresses_of_symbols(self):
        self.fails(self.changed(SYMBOLS, 44, 4), 44)
        self.fails(self.changed(SYMBOLS, 32, 6), 44)
        swapped = (SYMBOLS[0], 64, ((5, "b"), (5, "ab")))
        self.fails(pack_image(swapped), 44)
        self.fails(pack_image((SYMBOLS[0], 64, ((5, "ab"), (5, "a")))), 44)
        self.fails(pack_image((SYMBOLS[0], 64, ((5, "a"), (9, "a"), (8, "b")))), 56)

    def test_lengths_of_names(self):
        for length in (0, 31, 32, 256, TOP):
            self.fails(self.changed(SYMBOLS, 36, length), 36)
            self.fails(self.changed(SYMBOLS, 48, length), 48)

    def test_names(self):
        for name in ("1", "_a", "A", "aB", "a-", "a b", "a.", "a\n"):
            image = (ONE[0], 64, ((5, "a"), (6, name)))
            self.fails(pack_image(image), 52)
        data = pack_image(SYMBOLS)
        for value in (0, 1, 127, 128, 255):
            self.fails([*data[:40], value, *data[41:]], 40)
            self.fails([*data[:41], value, *data[42:]], 40)

    def test_the_bytes_behind_a_name(self):
        for length in (1, 2, 3, 5, 29, 30):
            data = pack_image((ONE[0], 64, ((5, "a" * length),)))
            for at in range(40 + length, len(data)):
                for value in (1, 97, 255):
                    self.fails([*data[:at], value, *data[at + 1:]], 40)

    def test_data_that_ends_too_early(self):
        for image in (ONE, SYMBOLS, SEVERAL):
            data = pack_image(image)
            for length in range(len(data)):
                self.fails(data[:length], length)

    def test_the_first_item_is_told_also_where_data_ends_too_early(self):
        self.fails(packed(MAGIC + 1), 0)
        self.fails(packed(MAGIC, 0, 0), 8)
        self.fails(self.changed(SYMBOLS, 44, 4)[:48], 44)
        self.fails(packed(MAGIC, 0, 1, 0, 4, 0, 0, 7), 32)

    def test_data_that_goes_on(self):
        for image in (ONE, SYMBOLS, SEVERAL):
            data = pack_image(image)
            for more in ([0], [0] * 4, [1, 2, 3, 4, 5]):
                self.fails(data + more, len(data))

    def test_what_is_taken_is_packed_the_same_again(self):
        for image in (ONE, SYMBOLS, (SEVERAL[0], 0, SEVERAL[2][:3])):
            data = pack_image(image)
            for at in range(len(data)):
                for value in (0, 1, 4, 97, 255):
                    other = [*data[:at], value, *data[at + 1:]]
                    try:
                        found = unpack_image(other)
                    except ImageError as error:
                        self.assertLessEqual(error.at, len(other))
                        continue
                    self.assertEqual(pack_image(found), other)
                    self.assertEqual(image_faults(found), [])


if __name__ == "__main__":
    unittest.main()
