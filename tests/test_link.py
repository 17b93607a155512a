import copy
import unittest

from helpers import TOP, bytes_of, words_of
from restitch.codes import encode
from restitch.errors import LinkError
from restitch.link import address_of, link, name_at
from restitch.machine import run
from restitch.memory import image_faults

SEGMENTS = ((64, (0,) * 64, False, True),)
NAMED = (SEGMENTS, 64, ((64, "a"), (72, "b"), (72, "c"), (80, "a"), (100, "d")))


def part(words, exports=(), needs=(), writable=False, executable=True, name="part"):
    return (name, tuple(words_of(words)), writable, executable, tuple(exports), tuple(needs))


START = part([("exit", 0)], [(0, "start")])


def word_in(image, index, offset):
    return int.from_bytes(bytes(image[0][index][1][offset:offset + 4]), "little")


class Names(unittest.TestCase):
    def test_name_at(self):
        cases = (
            (0, ""), (63, ""), (64, "a"), (65, "a+1"), (71, "a+7"), (72, "c"), (73, "c+1"), (79, "c+7"), (80, "a"),
            (99, "a+19"), (100, "d"), (101, "d+1"), (TOP, f"d+{TOP - 100}"),
        )
        for address, text in cases:
            self.assertEqual(name_at(NAMED, address), text, address)

    def test_no_symbols(self):
        for address in (0, 64, TOP):
            self.assertEqual(name_at((SEGMENTS, 64, ()), address), "")
        self.assertEqual(address_of((SEGMENTS, 64, ()), "a"), -1)

    def test_address_of(self):
        for name, address in (("a", 64), ("b", 72), ("c", 72), ("d", 100), ("e", -1), ("", -1), ("a+1", -1)):
            self.assertEqual(address_of(NAMED, name), address)

    def test_the_first_and_the_last_address(self):
        image = (SEGMENTS, 64, ((0, "zero"), (TOP, "top")))
        self.assertEqual(name_at(image, 0), "zero")
        self.assertEqual(name_at(image, TOP), "top")
        self.assertEqual(name_at(image, TOP - 1), f"zero+{TOP - 1}")


class Layout(unittest.TestCase):
    def test_one_part(self):
        image = link([START])
        self.assertEqual(image, (((4096, bytes_of([encode(("exit", 0))]), False, True),), 4096, ((4096, "start"),)))
        self.assertEqual(image_faults(image), [])

    def test_the_addresses_of_parts(self):
        lengths = (1, 3, 4, 5, 8, 2)
        parts = [part([0] * length, [(0, "start")] if k == 0 else []) for k, length in enumerate(lengths)]
        image = link(parts)
        # 4 words end at a multiple of 16, behind which the next part may stand at once.
        self.assertEqual([segment[0] for segment in image[0]], [4096, 4112, 4128, 4144, 4176, 4208])
        self.assertEqual([len(segment[1]) for segment in image[0]], [4 * length for length in lengths])

    def test_parts_may_be_a_tuple(self):
        self.assertEqual(link((START,)), link([START]))

    def test_flags(self):
        image = link([
            START, part([1], writable=True, executable=False), part([2], writable=False, executable=False),
        ])
        self.assertEqual([segment[2:] for segment in image[0]], [(False, True), (True, False), (False, False)])

    def test_the_order_of_symbols(self):
        image = link([
            part([0, 0, 0], [(8, "z"), (0, "b"), (0, "a"), (4, "start")]), part([0], [(0, "y"), (0, "c")]),
        ])
        self.assertEqual(image[1], 4100)
        self.assertEqual(image[2], (
            (4096, "a"), (4096, "b"), (4100, "start"), (4104, "z"), (4112, "c"), (4112, "y"),
        ))
        self.assertEqual(image_faults(image), [])

    def test_the_start_may_stand_in_any_part(self):
        self.assertEqual(link([part([0], [(0, "a")]), part([0, 0], [(4, "start")])])[1], 4116)

    def test_arguments_stay_as_they_were(self):
        parts = [part([("jal", 0, 0)], [(0, "start")], [(0, "jal", "start"), (0, "word", "start")])]
        kept = copy.deepcopy(parts)
        link(parts)
        self.assertEqual(parts, kept)


class Needs(unittest.TestCase):
    def test_word(self):
        image = link([part([5, 6], [(0, "start")], [(4, "word", "there")]), part([7, 8], [(4, "there")])])
        self.assertEqual(word_in(image, 0, 0), 5)
        self.assertEqual(word_in(image, 0, 4), 4116)

    def test_jal(self):
        image = link([
            part([("jal", 3, 77), ("jal", 4, 0)], [(0, "start")], [(0, "jal", "there"), (4, "jal", "start")]),
            part([0, ("jal", 5, 1)], [(0, "there")], [(4, "jal", "start")]),
        ])
        self.assertEqual(word_in(image, 0, 0), encode(("jal", 3, 4)))
        self.assertEqual(word_in(image, 0, 4), encode(("jal", 4, -1)))
        self.assertEqual(word_in(image, 1, 4), encode(("jal", 5, -5)))

    def test_high_and_low_of_addresses(self):
        # The first part's address is 4096, so the part behind can begin at each multiple of 16.
        for low in (0, 16, 8176, 8192, 16368):
            for behind in (0, 12):
                address = 16384 + low + behind
                filler = (16384 + low - 4096) // 4 - 4
                image = link([
                    part([("lui", 2, 9), ("addi", 3, 2, 5), ("lw", 3, 2, 1)], [(0, "start")], [
                        (0, "high", "there"), (4, "low", "there"), (8, "low", "there"),
                    ]),
                    part([0] * filler), part([0] * 4, [(behind, "there")]),
                ])
                high, rest = (address + 8192) // 16384, (address + 8192) % 16384 - 8192
                self.assertEqual(high * 16384 + rest, address)
                self.assertEqual(word_in(image, 0, 0), encode(("lui", 2, high)))
                self.assertEqual(word_in(image, 0, 4), encode(("addi", 3, 2, rest)))
                self.assertEqual(word_in(image, 0, 8), encode(("lw", 3, 2, rest)))

    def test_low_bits_at_their_bounds(self):
        for low, high, rest in ((0, 1, 0), (8188, 1, 8188), (8192, 2, -8192), (16380, 2, -4)):
            offset = 16384 + low - 4096
            image = link([part(
                [("lui", 1, 0), ("addi", 1, 1, 0)] + [0] * 8000, [(0, "start"), (offset, "there")],
                [(0, "high", "there"), (4, "low", "there")],
            )])
            self.assertEqual(word_in(image, 0, 0), encode(("lui", 1, high)))
            self.assertEqual(word_in(image, 0, 4), encode(("addi", 1, 1, rest)))

    def test_low_bits_of_addresses_that_are_no_multiple_of_4(self):
        # An export may name any byte of its part.
        for low, high, rest in ((8191, 1, 8191), (16383, 2, -1)):
            offset = 16384 + low - 4096
            image = link([part(
                [("lui", 1, 0), ("sb", 1, 1, 0)] + [0] * 8000, [(0, "start"), (offset, "there")],
                [(0, "high", "there"), (4, "low", "there")],
            )])
            self.assertEqual(word_in(image, 0, 0), encode(("lui", 1, high)))
            self.assertEqual(word_in(image, 0, 4), encode(("sb", 1, 1, rest)))

    def test_each_op_of_low(self):
        for op in ("addi", "lw", "lb", "lbu", "sw", "sb"):
            image = link([part([(op, 5, 6, -1)], [(0, "start")], [(0, "low", "start")])])
            self.assertEqual(word_in(image, 0, 0), encode((op, 5, 6, 4096)))

    def test_a_linked_program_runs(self):
        image = link([
            part(
                [("lui", 1, 0), ("lbu", 2, 1, 0), ("jal", 15, 0), ("exit", 2)], [(0, "start")],
                [(0, "high", "data"), (4, "low", "data"), (8, "jal", "twice")],
            ),
            part([("add", 2, 2, 2), ("jalr", 0, 15, 0)], [(0, "twice")]),
            part([0, 21], [(4, "data")], writable=True, executable=False),
        ])
        self.assertEqual(run(image, [], fuel=100), ([], ("exit", 42), 6))


class Faults(unittest.TestCase):
    def fails(self, parts, index, code):
        with self.assertRaises(LinkError) as caught:
            link(parts)
        self.assertEqual((caught.exception.part, caught.exception.code), (index, code))

    def both(self, wrong, code):
        """The part is told where it is the first one, and where it is a later one."""
        self.fails([wrong, START], 0, code)
        self.fails([START, wrong], 1, code)
        self.fails([START, wrong, wrong], 1, code)

    def test_names_that_are_not_allowed(self):
        for name in ("", "1a", "A", "_a", "a-b", "a" * 31):
            self.both(part([0], [(0, name)]), "export")

    def test_a_name_that_an_earlier_export_has(self):
        self.fails([START, part([0], [(0, "start")])], 1, "export")
        self.fails([part([0], [(0, "a"), (0, "a")]), START], 0, "export")
        self.fails([START, part([0], [(0, "a")]), part([0], [(0, "b")]), part([0], [(0, "a")])], 3, "export")

    def test_a_name_that_no_part_exports(self):
        self.both(part([("jal", 0, 0)], [], [(0, "jal", "nowhere")]), "need")
        self.both(part([0], [], [(0, "word", "")]), "need")

    def test_words_of_another_form(self):
        for word, form in (
            (("jalr", 0, 0, 0), "jal"), (0, "jal"), (("addi", 0, 0, 0), "high"), (("lui", 0, 0), "low"), (0, "low"),
            (("add", 0, 0, 0), "low"), (("ori", 0, 0, 0), "low"), (("jalr", 0, 0, 0), "low"),
            (("beq", 0, 0, 0), "low"), ((22 << 26) + (1 << 18), "high"), (TOP, "high"),
        ):
            self.both(part([word], [], [(0, form, "start")]), "form")

    def test_distances_of_jal(self):
        jal = ("jal", 0, 0)
        far = part([jal] + [0] * 131071 + [0], [(4 * 131072, "far"), (0, "near")], [(0, "jal", "far")])
        self.fails([far, START], 0, "range")
        self.fails([START, far], 1, "range")
        # One word less is not too far; then only the size of the image is wrong.
        fits = part([jal] + [0] * 131071, [(4 * 131071, "far"), (0, "start")], [(0, "jal", "far")])
        self.fails([fits], -1, "size")
        back = part([0] * 131072 + [jal], [(0, "start")], [(4 * 131072, "jal", "start")])
        self.fails([back], -1, "size")
        self.fails([part([0] * 131073 + [jal], [(0, "start")], [(4 * 131073, "jal", "start")])], 0, "range")

    def test_two_codes_in_one_part(self):
        jal = ("jal", 0, 0)
        self.fails([part([0], [(0, "A"), (0, "start")], [(0, "jal", "start"), (0, "word", "x")])], 0, "export")
        self.fails([part([0], [(0, "start")], [(0, "jal", "start"), (0, "word", "x")])], 0, "need")
        far = [(4 * 131072, "start")]
        self.fails([part([jal] + [0] * 131072, far, [(0, "jal", "start"), (4, "jal", "start")])], 0, "form")
        self.fails([part([jal] + [0] * 131072, far, [(0, "jal", "start"), (4, "jal", "x")])], 0, "need")

    def test_faults_of_two_parts(self):
        need = part([0], [], [(0, "word", "x")])
        form = part([0], [], [(0, "jal", "start")])
        self.fails([need, form, START], 0, "need")
        self.fails([form, need, START], 0, "form")
        # "export" of all parts goes ahead of the other codes, also of earlier parts.
        self.fails([need, START, part([0], [(0, "X")])], 2, "export")
        self.fails([form, START, START], 2, "export")

    def test_faults_of_the_image(self):
        self.fails([], -1, "start")
        self.fails([part([0], [(0, "begin")])], -1, "start")
        self.fails([START] + [part([0])] * 16, -1, "size")
        self.fails([START, part([0] * 16384)], -1, "size")
        self.assertEqual(len(link([START] + [part([0])] * 15)[0]), 16)
        self.assertEqual(len(link([START, part([0] * 16383)])[0]), 2)

    def test_faults_of_parts_go_ahead_of_faults_of_the_image(self):
        self.fails([part([0])] * 17, -1, "start")
        self.fails([part([0], [], [(0, "word", "start")])], 0, "need")
        self.fails([START] + [part([0])] * 16 + [part([0], [], [(0, "jal", "start")])], 17, "form")

    def test_several_needs_of_one_word(self):
        image = link([part([("lui", 1, 0), 0], [(0, "start"), (4, "b")], [(0, "high", "start"), (0, "word", "b")])])
        self.assertEqual(word_in(image, 0, 0), 4100)


if __name__ == "__main__":
    unittest.main()
