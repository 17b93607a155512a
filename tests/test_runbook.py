import unittest

from helpers import TOP, bytes_of, constant_segment, data_segment, image_of
from restitch.codes import OPS
from restitch.machine import compute, holds
from restitch.runbook import last_of_book, run_book

CODE = image_of([("exit", 0), 0, ("exit", 1)])
BRANCHES = ("beq", "bne", "blt", "bge", "bltu", "bgeu")


def of_lines(*lines, end=("exit", 0)):
    return (((5, lines, end),), 5, ())


def do(*instruction, old=0):
    return ("do", instruction, old)


class Lines(unittest.TestCase):
    def registers(self, *lines, image=CODE, data=()):
        state = last_of_book(image, of_lines(*lines), list(data), fuel=100)
        self.assertEqual(state[7], ("exit", 0))
        return state[0]

    def test_li(self):
        self.assertEqual(self.registers(("li", 1, TOP), ("li", 15, 7))[1:16:14], (TOP, 7))
        self.assertEqual(self.registers(("li", 0, 9)), (0,) * 16)

    def test_ops_of_registers(self):
        for op in OPS[:13]:
            for x, y in ((7, 3), (TOP, 2), (5, 0), (2 ** 31, TOP)):
                found = self.registers(("li", 1, x), ("li", 2, y), do(op, 3, 1, 2))
                self.assertEqual(found[3], compute(op, x, y), (op, x, y))

    def test_ops_of_an_immediate(self):
        for op in OPS[13:21]:
            for x, imm in ((7, 3), (TOP, -1), (5, -8192)):
                found = self.registers(("li", 1, x), do(op, 3, 1, imm))
                self.assertEqual(found[3], compute(op, x, imm % 2 ** 32), (op, x, imm))

    def test_results_for_register_0_are_lost(self):
        self.assertEqual(self.registers(do("addi", 0, 0, 5), do("lui", 0, 5), do("get", 0), data=[9]), (0,) * 16)

    def test_lui(self):
        self.assertEqual(self.registers(do("lui", 1, 2 ** 18 - 1))[1], 2 ** 32 - 2 ** 14)

    def test_get_and_put(self):
        book = of_lines(do("get", 1), do("put", 1), do("get", 2), do("put", 2), end=("exit", 1))
        self.assertEqual(run_book(CODE, book, [7], fuel=9), ([7, 255], ("exit", 7), 5, []))
        state = last_of_book(CODE, book, (7,), fuel=9)
        self.assertEqual((state[0][2], state[4], state[5]), (TOP, 1, (7, 255)))

    def test_loads_and_stores(self):
        image = image_of([("exit", 0)], constant_segment(64, bytes_of([0xFEDCBA98])), data_segment(72, bytes_of([0])))
        self.assertEqual(self.registers(do("lw", 1, 0, 64), do("lb", 2, 0, 64), do("lbu", 3, 0, 67), image=image)[1:4], (
            0xFEDCBA98, 0xFFFFFF98, 0xFE,
        ))
        book = of_lines(("li", 1, 0x01020304), do("sw", 1, 0, 72), do("sb", 1, 0, 75), do("lw", 2, 0, 72))
        state = last_of_book(image, book, [], fuel=9)
        self.assertEqual(state[0][2], 0x04020304)
        self.assertEqual(state[3], (image[0][0][1], bytes_of([0xFEDCBA98]), bytes_of([0x04020304])))

    def test_counters(self):
        book = of_lines(("count", 9), ("count", 0), ("count", 9), ("count", 999))
        self.assertEqual(run_book(CODE, book, [], fuel=9), ([], ("exit", 0), 5, [(0, 1), (9, 2), (999, 1)]))
        self.assertEqual(last_of_book(CODE, book, [], fuel=9)[6], ((0, 1), (9, 2), (999, 1)))
        self.assertEqual(last_of_book(CODE, book, [], fuel=1)[6], ((9, 1),))
        self.assertEqual(last_of_book(CODE, of_lines(), [], fuel=1)[6], ())


class Traps(unittest.TestCase):
    IMAGE = image_of([("exit", 0)], constant_segment(64, (0,) * 8), data_segment(72, (0,) * 8))

    def ends(self, line, end):
        book = of_lines(("li", 1, 1), line, ("li", 1, 2))
        state = last_of_book(self.IMAGE, book, [], fuel=2)
        # The line that ends the run changes nothing else.
        self.assertEqual(state[:7], ((0, 1, *[0] * 14), 5, 1, tuple(row[1] for row in self.IMAGE[0]), 0, (), ()))
        self.assertEqual(state[7], end)
        self.assertEqual(last_of_book(self.IMAGE, book, [], fuel=50), state)
        self.assertEqual(run_book(self.IMAGE, book, [], fuel=50), ([], end, 2, []))

    def test_loads(self):
        for instruction in (("lw", 1, 0, 66), ("lw", 1, 0, 80), ("lw", 1, 1, 60), ("lb", 1, 0, 80), ("lbu", 1, 0, -1)):
            self.ends(("do", instruction, 123456), ("trap", "load", 123456))
            self.ends(("do", (instruction[0], 0, *instruction[2:]), TOP), ("trap", "load", TOP))

    def test_stores(self):
        for instruction in (
            ("sw", 1, 0, 74), ("sw", 1, 0, 64), ("sw", 1, 0, 80), ("sb", 1, 0, 71), ("sb", 1, 0, 80), ("sw", 1, 0, 0), ("sb", 1, 0, 3),
        ):
            self.ends(("do", instruction, 0), ("trap", "store", 0))

    def test_ends_that_trap(self):
        for word in ("fetch", "illegal", "load", "store"):
            book = of_lines(("li", 1, 1), end=("trap", word, 44))
            self.assertEqual(run_book(CODE, book, [], fuel=9), ([], ("trap", word, 44), 2, []))
            self.assertEqual(last_of_book(CODE, book, [], fuel=9)[1:3], (5, 1))


class Ends(unittest.TestCase):
    def test_go(self):
        book = (((1, (), ("go", 2)), (2, (("li", 1, 5),), ("go", 0)), (0, (), ("exit", 1))), 1, ())
        self.assertEqual(run_book(CODE, book, [], fuel=9), ([], ("exit", 5), 4, []))
        self.assertEqual(last_of_book(CODE, book, [], fuel=1)[1:3], (2, 0))
        self.assertEqual(last_of_book(CODE, book, [], fuel=2)[1:3], (2, 1))
        self.assertEqual(last_of_book(CODE, book, [], fuel=3)[1:3], (0, 0))

    def test_if(self):
        for op in BRANCHES:
            for x in (0, 1, 2 ** 31, TOP):
                for y in (0, 1, 2 ** 31, TOP):
                    blocks = (
                        (0, (("li", 1, x), ("li", 2, y)), ("if", op, 1, 2, 7, 8)), (7, (), ("trap", "load", 7)),
                        (8, (), ("trap", "load", 8)),
                    )
                    found = run_book(CODE, (blocks, 0, ()), [], fuel=9)
                    self.assertEqual(found, ([], ("trap", "load", 7 if holds(op, x, y) else 8), 4, []))

    def test_exit(self):
        for word, code in ((0, 0), (255, 255), (256, 0), (TOP, 255)):
            self.assertEqual(run_book(CODE, of_lines(("li", 1, word), end=("exit", 1)), [], fuel=9)[1], ("exit", code))
        self.assertEqual(last_of_book(CODE, of_lines(("li", 1, 6), end=("exit", 1)), [], fuel=9)[:3], ((0, 6, *[0] * 14), 5, 1))

    def through(self, word, imm, rd, given, table=((0, 7), (9, 7))):
        blocks = ((0, (("li", 1, word),), ("through", 1, imm, rd, given)), (7, (), ("exit", 0)))
        return last_of_book(CODE, (blocks, 0, table), [], fuel=2)

    def test_through_an_address_of_the_table(self):
        self.assertEqual(self.through(0, 0, 3, 40)[:3], ((0, 0, 0, 40, *[0] * 12), 7, 0))
        # The table is asked first, whatever can be fetched there.
        self.assertEqual(self.through(10, -1, 3, 40)[1:3], (7, 0))
        self.assertEqual(self.through(TOP, 1, 3, 40)[1:3], (7, 0))
        self.assertEqual(self.through(0, 0, 3, 40)[7], ("none",))

    def test_through_an_address_that_cannot_be_fetched(self):
        for word, imm, address in ((12, 0, 12), (2, 0, 2), (1, 0, 1), (0, -4, TOP - 3), (TOP, 0, TOP)):
            state = self.through(word, imm, 3, 40)
            self.assertEqual(state[7], ("trap", "fetch", address))
            self.assertEqual(state[:3], ((0, word, 0, 40, *[0] * 12), 0, 1))

    def test_through_an_address_that_can(self):
        for address in (4, 8):
            self.assertEqual(self.through(address, 0, 3, 40)[7], ("lost", address))
            self.assertEqual(self.through(0, address, 3, 40)[7], ("lost", address))
        self.assertEqual(self.through(0, 0, 3, 40, table=())[7], ("lost", 0))
        self.assertEqual(self.through(4, 0, 3, 40)[:3], ((0, 4, 0, 40, *[0] * 12), 0, 1))

    def test_the_address_is_computed_ahead_of_the_result(self):
        self.assertEqual(self.through(9, 0, 1, 40)[:2], ((0, 40, *[0] * 14), 7))
        self.assertEqual(self.through(8, 0, 1, 40)[7], ("lost", 8))

    def test_through_without_a_result(self):
        self.assertEqual(self.through(9, 0, 0, 40)[:2], ((0, 9, *[0] * 14), 7))

    def test_a_run_that_is_lost_stays_so(self):
        blocks = ((0, (), ("through", 0, 4, 2, 8)),)
        book = (blocks, 0, ())
        self.assertEqual(run_book(CODE, book, [], fuel=50), ([], ("lost", 4), 1, []))
        self.assertEqual(last_of_book(CODE, book, [], fuel=50), last_of_book(CODE, book, [], fuel=1))


class Fuel(unittest.TestCase):
    BOOK = (((3, (("count", 1), do("put", 0)), ("go", 4)), (4, (do("put", 0),), ("exit", 0))), 3, ())

    def test_the_first_state(self):
        image = image_of([("exit", 0)], data_segment(64, (1, 2, 3, 4)))
        self.assertEqual(last_of_book(image, self.BOOK, [1], fuel=0), (
            (0,) * 16, 3, 0, (image[0][0][1], (1, 2, 3, 4)), 0, (), (), ("none",),
        ))
        self.assertEqual(run_book(image, self.BOOK, [1], fuel=0), ([], ("none",), 0, []))

    def test_each_fuel(self):
        for fuel, out, label, position in ((1, 0, 3, 1), (2, 1, 3, 2), (3, 1, 4, 0), (4, 2, 4, 1)):
            self.assertEqual(run_book(CODE, self.BOOK, [], fuel=fuel), ([0] * out, ("none",), fuel, [(1, 1)]))
            self.assertEqual(last_of_book(CODE, self.BOOK, [], fuel=fuel)[1:3], (label, position))
        for fuel in (5, 6, 1000):
            self.assertEqual(run_book(CODE, self.BOOK, [], fuel=fuel), ([0, 0], ("exit", 0), 5, [(1, 1)]))

    def test_kinds_of_values(self):
        out, end, steps, counts = run_book(CODE, self.BOOK, [], fuel=9)
        self.assertIsInstance(out, list)
        self.assertIsInstance(counts, list)
        state = last_of_book(CODE, self.BOOK, [], fuel=9)
        self.assertEqual([type(item) for item in state], [tuple, int, int, tuple, int, tuple, tuple, tuple])
        self.assertTrue(all(isinstance(values, tuple) for values in state[3]))

    def test_a_run_without_an_end(self):
        book = (((0, (("count", 2),), ("go", 0)),), 0, ())
        self.assertEqual(run_book(CODE, book, [], fuel=100001), ([], ("none",), 100001, [(2, 50001)]))

    def test_arguments_stay_as_they_were(self):
        image = image_of([("exit", 0)], data_segment(64, (1, 2, 3, 4)))
        data = [5, 6]
        book = of_lines(do("get", 1), do("sb", 1, 0, 64), ("count", 1))
        run_book(image, book, data, fuel=9)
        last_of_book(image, book, data, fuel=9)
        self.assertEqual(data, [5, 6])
        self.assertEqual(image, image_of([("exit", 0)], data_segment(64, (1, 2, 3, 4))))
        self.assertEqual(book, of_lines(do("get", 1), do("sb", 1, 0, 64), ("count", 1)))


if __name__ == "__main__":
    unittest.main()
