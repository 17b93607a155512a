import random
import unittest

from helpers import TOP, bytes_of, code_segment, constant_segment, image_of
from restitch.descent import call_graph, calls, descend, routines
from restitch.holding import plain
from restitch.solve import solve
from restitch.ways import ways

# Two calls of a routine that calls another one, and one through a register.
CALLS = [
    ("jal", 15, 6),         # 0: calls 24
    ("addi", 3, 0, 40),     # 4
    ("jalr", 14, 3, 0),     # 8: calls 40
    ("jal", 15, 3),         # 12: calls 24
    ("exit", 0),            # 16
    0,                      # 20
    ("add", 13, 15, 0),     # 24
    ("jal", 14, 3),         # 28: calls 40
    ("jalr", 0, 13, 0),     # 32
    0,                      # 36
    ("get", 1),             # 40
    ("beq", 1, 0, 2),       # 44
    ("put", 1),             # 48
    ("jalr", 0, 14, 0),     # 52
]


class Descend(unittest.TestCase):
    def of(self, code, entry=0, address=0):
        return descend(image_of(code, address=address, entry=entry))

    def test_straight_code(self):
        self.assertEqual(self.of([("get", 1), ("put", 1), ("exit", 1), ("put", 1)]), [0, 4, 8])
        self.assertEqual(self.of([("get", 1), ("put", 1)]), [0, 4])

    def test_words_that_are_illegal(self):
        self.assertEqual(self.of([("get", 1), 0, ("put", 1)]), [0, 4])

    def test_branches_go_both_ways_without_facts(self):
        self.assertEqual(self.of([("beq", 0, 0, 3), ("exit", 1), 0, ("exit", 2)]), [0, 4, 12])

    def test_jumps_go_only_to_their_targets(self):
        self.assertEqual(self.of([("jal", 0, 2), ("put", 1), ("exit", 1)]), [0, 8])

    def test_calls_go_on_behind_themselves(self):
        self.assertEqual(self.of([("jal", 1, 3), ("exit", 1), 0, ("exit", 2)]), [0, 4, 12])

    def test_not_through_a_jalr(self):
        self.assertEqual(self.of([("jalr", 0, 0, 8), ("exit", 1), ("exit", 2)]), [0])
        self.assertEqual(self.of([("jalr", 5, 0, 8), ("exit", 1), ("exit", 2)]), [0, 4])

    def test_the_document_s_example_lacks_places(self):
        code = [("get", 1), ("andi", 1, 1, 4), ("lw", 2, 1, 32), ("jalr", 0, 2, 0), 0, 0, ("exit", 1), ("exit", 0)]
        image = image_of(code, constant_segment(32, bytes_of([24, 28])))
        self.assertEqual(descend(image), [0, 4, 8, 12])

    def test_loops(self):
        self.assertEqual(self.of([("get", 1), ("beq", 1, 0, 3), ("put", 1), ("jal", 0, -3), ("exit", 1)]), [0, 4, 8, 12, 16])

    def test_addresses_that_are_no_places(self):
        self.assertEqual(self.of([("jal", 0, 1)], entry=2), [])
        self.assertEqual(self.of([("beq", 1, 2, -1), ("jal", 0, 99)]), [0, 4])

    def test_past_the_last_address(self):
        image = ((code_segment(0, [("exit", 0)]), code_segment(2 ** 32 - 4, [("put", 1)])), 2 ** 32 - 4, ())
        self.assertEqual(descend(image), [0, 2 ** 32 - 4])

    def test_calls_of_the_code_above(self):
        self.assertEqual(self.of(CALLS), [4 * k for k in range(14) if k not in (5, 9)])


class Calls(unittest.TestCase):
    def of(self, code, answer, entry=0):
        image = image_of(code, entry=entry)
        return answer(image, solve(image))

    def test_calls(self):
        self.assertEqual(self.of(CALLS, calls), [
            (0, 15, (24,)), (8, 14, (40,)), (12, 15, (24,)), (28, 14, (40,)),
        ])

    def test_jumps_without_a_result_are_no_calls(self):
        self.assertEqual(self.of([("jal", 0, 1), ("addi", 1, 0, 12), ("jalr", 0, 1, 0), ("exit", 0)], calls), [])

    def test_targets_that_are_no_places(self):
        self.assertEqual(self.of([("jal", 1, 9), ("exit", 0)], calls), [(0, 1, ())])
        code = [("get", 2), ("andi", 2, 2, 1), ("addi", 2, 2, 16), ("jalr", 3, 2, 0), ("exit", 0)]
        self.assertEqual(self.of(code, calls), [(12, 3, (16,))])

    def test_a_call_of_any_target(self):
        code = [("get", 2), ("jalr", 3, 2, 0), ("jal", 4, 1), ("exit", 0)]
        self.assertEqual(self.of(code, calls), [(4, 3, None), (8, 4, (12,))])

    def test_a_call_of_several_targets(self):
        code = [("get", 2), ("andi", 2, 2, 4), ("jalr", 3, 2, 12), ("exit", 0), ("exit", 1)]
        self.assertEqual(self.of(code, calls), [(8, 3, (12, 16))])
        self.assertEqual(self.of(code, routines), [(12, (12,)), (16, (16,))])
        self.assertEqual(self.of(code, call_graph), [(-1, 12), (-1, 16)])

    def test_no_code(self):
        for answer in (calls, routines, call_graph):
            self.assertEqual(self.of([("jal", 1, 1), ("exit", 0)], answer, entry=TOP), [])


class Routines(unittest.TestCase):
    def of(self, code):
        image = image_of(code)
        return routines(image, solve(image))

    def test_the_code_above(self):
        # The inner call goes on behind itself; the returns go nowhere.
        self.assertEqual(self.of(CALLS), [(24, (24, 28, 32)), (40, (40, 44, 48, 52))])

    def test_a_call_that_does_not_come_back(self):
        # Nothing leads behind the call, so it is no code.
        self.assertEqual(self.of([("jal", 15, 2), ("exit", 9), ("jal", 14, 2), ("put", 1), ("exit", 0)]), [
            (8, (8,)), (16, (16,)),
        ])

    def test_a_routine_that_calls_itself(self):
        code = [
            ("jal", 15, 2), ("exit", 0), ("get", 1), ("beq", 1, 0, 2), ("jal", 15, -2), ("exit", 1),
        ]
        self.assertEqual(self.of(code), [(8, (8, 12, 16, 20))])

    def test_routines_that_share_places(self):
        code = [("jal", 15, 3), ("jal", 15, 3), ("exit", 0), ("addi", 1, 1, 1), ("addi", 1, 1, 2), ("jalr", 0, 15, 0)]
        self.assertEqual(self.of(code), [(12, (12, 16, 20)), (16, (16, 20))])

    def test_a_routine_with_a_loop(self):
        code = [("jal", 15, 2), ("exit", 0), ("get", 1), ("bne", 1, 0, -1), ("jalr", 0, 15, 0)]
        self.assertEqual(self.of(code), [(8, (8, 12, 16))])

    def test_a_jump_through_a_register_goes_nowhere(self):
        code = [("jal", 15, 2), ("exit", 0), ("addi", 1, 0, 20), ("jalr", 0, 1, 0), 0, ("jalr", 0, 15, 0)]
        self.assertEqual(self.of(code), [(8, (8, 12))])

    def test_a_call_of_any_target_has_no_known_ones(self):
        image = image_of([("get", 2), ("jalr", 3, 2, 0), ("jal", 4, 1), ("exit", 0)])
        self.assertEqual(routines(image, solve(image)), [(12, (12,))])
        self.assertEqual(call_graph(image, solve(image)), [(-1, 12)])


    def test_random_code(self):
        chance = random.Random(8)
        for _ in range(200):
            count = chance.randint(2, 14)
            code = [chance.choice((
                ("jal", 15, chance.randint(-k, count - k)), ("beq", 1, 2, chance.randint(-k, count - k)), ("get", 1),
                ("jal", 0, chance.randint(-k, count - k)), ("jalr", 0, 15, 0), ("exit", 0), ("put", 1), 0,
            )) for k in range(count)]
            image = image_of(code)
            table = solve(image)
            rows = dict(table)
            for head, inside in routines(image, table):
                self.assertEqual(inside, self.walked(code, rows, image, head))

    def walked(self, code, rows, image, head):
        """The places of a routine, by the plainest way."""
        found, waiting = set(), [head]
        while waiting:
            address = waiting.pop()
            if address in found or address not in rows:
                continue
            found.add(address)
            instruction = code[address // 4]
            if instruction != 0 and instruction[:2] == ("jal", 15):
                waiting.append(address + 4)
            elif instruction == 0 or instruction[0] != "jalr":
                waiting += [target for target, _ in ways(image, address, rows[address])]
        return tuple(sorted(found))


class Graph(unittest.TestCase):
    def of(self, code):
        image = image_of(code)
        return call_graph(image, solve(image))

    def test_the_code_above(self):
        self.assertEqual(self.of(CALLS), [(-1, 24), (-1, 40), (24, 40)])

    def test_each_once(self):
        code = [("jal", 15, 3), ("jal", 15, 2), ("exit", 0), ("jalr", 0, 15, 0)]
        self.assertEqual(self.of(code), [(-1, 12)])

    def test_a_place_in_two_routines(self):
        code = [
            ("jal", 15, 3), ("jal", 15, 3), ("exit", 0), ("addi", 1, 1, 1), ("jal", 14, 2), ("jalr", 0, 15, 0),
            ("jalr", 0, 14, 0),
        ]
        self.assertEqual(self.of(code), [(-1, 12), (-1, 16), (12, 24), (16, 24)])

    def test_a_routine_that_calls_itself(self):
        code = [("jal", 15, 2), ("exit", 0), ("get", 1), ("beq", 1, 0, 2), ("jal", 15, -2), ("exit", 1)]
        self.assertEqual(self.of(code), [(-1, 8), (8, 8)])

    def test_a_routine_that_holds_its_caller(self):
        # The entry is called, too, so that a routine holds its code.
        code = [("get", 1), ("beq", 1, 0, 2), ("jal", 15, -2), ("exit", 1)]
        self.assertEqual(self.of(code), [(0, 0)])

    def test_a_plain_table(self):
        image = image_of(CALLS)
        self.assertEqual(calls(image, plain(image)), [(0, 15, (24,)), (8, 14, None), (12, 15, (24,)), (28, 14, (40,))])
        self.assertEqual(call_graph(image, plain(image)), [(-1, 24), (24, 40)])

    def test_many_routines(self):
        code = [("jal", 15, 8192), ("jalr", 0, 15, 0)] * 4096 + [("jalr", 0, 15, 0)] * 8192
        image = image_of(code)
        table = plain(image)
        self.assertEqual(len(routines(image, table)), 4096)
        self.assertEqual(call_graph(image, table)[0], (-1, 32768))

    def test_arguments_stay_as_they_were(self):
        image = image_of(CALLS)
        table = solve(image)
        for answer in (calls, routines, call_graph):
            answer(image, table)
        descend(image)
        self.assertEqual((image, table), (image_of(CALLS), solve(image_of(CALLS))))


if __name__ == "__main__":
    unittest.main()
