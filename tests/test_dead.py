import unittest

from helpers import data_segment, image_of
from samples import ALL, CALLS, COUNTING, ECHO, FIXED, INPUTS, NO_CODE, WILD, chance_images, image_of_text
from restitch.book import targets_of_end
from restitch.checker import check
from restitch.codes import LOADS, is_alu, reads, writes
from restitch.dead import dead, wanted
from restitch.first import first_book
from restitch.holding import plain
from restitch.house import WORDS, rewrite
from restitch.runbook import run_book
from restitch.symbols import Pool
from restitch.walk import body_way, old_way
from restitch.weave import weave


def do(instruction, old):
    return ("do", instruction, old)


def plainly_wanted(image, book, paper):
    """The wanted registers as they are told: sets that grow, from none on, until nothing changes."""
    quiet = {label: quiet_lines(image, paper, label, body) for label, body, _ in book[0]}
    found = {block[0]: set() for block in book[0]}
    changed = True
    while changed:
        changed = False
        for label, body, end in book[0]:
            new = wanted_ahead(book, found, body, end, quiet[label])[0]
            if new != found[label]:
                found[label] = new
                changed = True
    kept = {label: wanted_ahead(book, found, body, end, quiet[label])[1] for label, body, end in book[0]}
    return {label: tuple(sorted(numbers)) for label, numbers in found.items()}, kept


def wanted_ahead(book, found, body, end, quiet):
    if end[0] == "through":
        now = set().union(*[found[label] for _, label in book[2]]) - {end[3]} | {end[1]}
    else:
        now = set().union(*[found[label] for label in targets_of_end(end)])
        now |= set(end[2:4]) if end[0] == "if" else {end[1]} if end[0] == "exit" else set()
    now -= {0}
    kept = []
    for index in reversed(range(len(body))):
        line = body[index]
        written = line[1] if line[0] == "li" else writes(line[1]) if line[0] == "do" else -1
        may_go = line[0] == "li" or line[0] == "do" and (is_alu(line[1][0]) or index in quiet)
        if may_go and written not in now:
            continue
        kept.insert(0, line)
        now = now - {written} | (set(reads(line[1])) if line[0] == "do" else set())
    return now, kept


def quiet_lines(image, paper, label, body):
    """The indices of the loads that are quiet, told by the events of each beginning of the body."""
    pool = Pool()
    row = [row for row in paper[1] if row[0] == label][0]
    registers, _, _, known, _ = old_way(pool, image, paper[0], row[1], row[3])
    start = old_way(pool, image, paper[0], row[1], 0)[0]
    own = [start[r] if r == 0 or r in row[2] else pool.term(("loose", r)) for r in range(16)]
    counts = [len(body_way(pool, own, body[:k], known)[1]) for k in range(len(body) + 1)]
    return [k for k, line in enumerate(body) if line[0] == "do" and line[1][0] in LOADS and counts[k] == counts[k + 1]]


class Wanted(unittest.TestCase):
    def of(self, image, **more):
        return wanted(image, *first_book(image, **more))

    def test_reads_ahead_of_writes(self):
        self.assertEqual(self.of(ECHO), {0: (), 1: (1,), 2: (1,)})
        image = image_of([("add", 1, 2, 3), ("sw", 4, 5, 0), ("put", 6), ("lw", 7, 8, 0), ("exit", 1)])
        self.assertEqual(self.of(image, whole=True), {0: (2, 3, 4, 5, 6, 8)})
        # All registers hold 0 there, so that the load is quiet behind the store.
        self.assertEqual(self.of(image), {0: (2, 3, 4, 5, 6)})
        image = image_of([("addi", 1, 1, 1), ("get", 2), ("put", 2), ("exit", 1)])
        self.assertEqual(self.of(image), {0: (1,)})

    def test_of_each_end(self):
        image = image_of([("beq", 1, 2, 2), ("exit", 3), ("jalr", 4, 5, 0)])
        self.assertEqual(self.of(image, whole=True), {0: (1, 2, 3, 5), 1: (3,), 2: (1, 2, 3, 5)})

    def test_through_leads_to_the_table_and_writes(self):
        self.assertEqual(self.of(CALLS), {0: (), 1: (1,), 2: (1,), 3: (1, 15)})
        image = image_of([("jalr", 4, 5, 0), ("exit", 4)])
        self.assertEqual(self.of(image, whole=True), {0: (5,), 1: (4,)})
        image = image_of([("jalr", 5, 5, 0), ("exit", 4)])
        self.assertEqual(self.of(image, whole=True), {0: (4, 5), 1: (4,)})

    def test_loops(self):
        self.assertEqual(self.of(COUNTING), {0: (), 1: (1, 2), 2: (2,)})
        # A register that is only ever changed by itself is not wanted: the least sets.
        image = image_of([("addi", 1, 1, 1), ("get", 2), ("bne", 2, 0, -2), ("exit", 2)])
        self.assertEqual(self.of(image), {0: (), 1: (2,)})
        image = image_of([("add", 1, 1, 3), ("add", 3, 3, 1), ("put", 2), ("jal", 0, -3)])
        self.assertEqual(self.of(image), {0: (2,)})

    def test_lines_that_are_as_if_they_were_not_there(self):
        code = [("addi", 1, 2, 1), ("addi", 3, 1, 1), ("get", 3), ("exit", 3)]
        self.assertEqual(self.of(image_of(code)), {0: ()})
        # A load that is not quiet may trap, and a store does something, too.
        code = [("lw", 1, 2, 0), ("lw", 1, 2, 0), ("sb", 3, 4, 0), ("get", 3), ("exit", 3)]
        self.assertEqual(self.of(image_of(code)), {0: (2, 3, 4)})

    def test_register_0_is_never_wanted(self):
        self.assertEqual(self.of(image_of([("add", 1, 0, 0), ("put", 0), ("exit", 0)])), {0: ()})
        self.assertEqual(self.of(NO_CODE), {0: ()})

    def test_chance_images(self):
        for chance, image in chance_images(6000, 60):
            script = [(chance.choice(WORDS), -1) for _ in range(chance.randrange(5))]
            pair = rewrite(image, script, whole=chance.random() < 0.3)
            if sum(len(body) for _, body, _ in pair[0][0]) < 300:
                plain_ones, kept = plainly_wanted(image, *pair)
                self.assertEqual(wanted(image, *pair), plain_ones)
                self.assertEqual({label: list(body) for label, body, _ in dead(image, *pair)[0][0]}, kept)


class Dead(unittest.TestCase):
    def test_lines_go(self):
        code = [("get", 1), ("addi", 2, 1, 1), ("lui", 3, 7), ("addi", 4, 2, 1), ("add", 0, 1, 1), ("put", 2), ("exit", 0)]
        image = image_of(code)
        book, paper = dead(image, *first_book(image))
        self.assertEqual(book, (((0, (do(("get", 1), 0), do(("addi", 2, 1, 1), 4), do(("put", 2), 20)), ("exit", 0)),), 0, ()))
        self.assertEqual(paper[1], ((0, 0, (), 7),))
        self.assertIs(check(image, book, paper), True)

    def test_quiet_loads_go_and_others_stay(self):
        code = [("get", 1), ("lw", 2, 1, 0), ("lw", 3, 1, 0), ("sb", 2, 1, 0), ("lbu", 4, 1, 0), ("lb", 0, 1, 0), ("lb", 5, 1, 1), ("exit", 0)]
        image = image_of(code, data_segment(64, (0,) * 8))
        book, paper = dead(image, *first_book(image))
        self.assertEqual([line[2] for line in book[0][0][1]], [0, 4, 12, 24])
        self.assertIs(check(image, book, paper), True)

    def test_a_line_that_is_no_alu_line_stays(self):
        image = image_of([("lui", 1, 5), ("exit", 0)])
        pair = (((0, (do(("lui", 1, 5), 0),), ("exit", 0)),), 0, ()), (plain(image), ((0, 0, (), 2),), ())
        self.assertEqual(dead(image, *pair), pair)
        pair = (((0, (do(("get", 1), 0),), ("exit", 0)),), 0, ()), (plain(image), ((0, 0, (), 2),), ())
        self.assertEqual(dead(image, *pair), pair)

    def test_counters_stay(self):
        pair = weave(ECHO, *first_book(ECHO))
        book, paper = dead(ECHO, *pair)
        self.assertEqual((book, paper[2]), (pair[0], pair[1][2]))

    def test_same(self):
        book, paper = dead(CALLS, *first_book(CALLS))
        self.assertEqual([row[2] for row in paper[1]], [(), (1,), (1,), (1, 15)])
        # A register that did not agree is not in same behind it, either.
        image = image_of([("xor", 1, 2, 2), ("put", 1), ("exit", 3)])
        pair = (first_book(image)[0], (plain(image), ((0, 0, (3, 9), 3),), ()))
        self.assertIs(check(image, *pair), True)
        self.assertEqual(dead(image, *pair)[1][1], ((0, 0, (3,), 3),))

    def test_the_result_of_a_call_that_never_returns(self):
        image = image_of_text("get r1\njal r15, 1\nput r1\nexit r1")
        book, paper = dead(image, *first_book(image))
        self.assertEqual(book[0], ((0, (do(("get", 1), 0),), ("go", 1)), (1, (do(("put", 1), 8),), ("exit", 1))))

    def test_amounts_and_a_second_turn(self):
        for image in FIXED:
            for whole in (False, True):
                pair = first_book(image, whole=whole)
                once = dead(image, *pair)
                self.assertIs(check(image, *once), True)
                self.assertEqual(dead(image, *once), once)
                self.assertEqual(dead(image, *pair, amount=1), once)
                self.assertEqual(dead(image, *pair, amount=999), once)

    def test_chance_images(self):
        for chance, image in chance_images(6500, 150):
            script = [(chance.choice(WORDS), -1) for _ in range(chance.randrange(5))]
            pair = rewrite(image, script, whole=chance.random() < 0.3)
            book, paper = dead(image, *pair)
            self.assertIs(check(image, book, paper), True)
            self.assertEqual(dead(image, book, paper), (book, paper))
            for row in paper[1]:
                self.assertLessEqual(set(row[2]), set(ALL))
            for data in INPUTS:
                out, end, steps, counts = run_book(image, pair[0], data, fuel=300)
                if end != ("none",):
                    found = run_book(image, book, data, fuel=steps)
                    self.assertEqual((found[0], found[1], found[3]), (out, end, counts))

    def test_wild_jumps_keep_what_any_place_wants(self):
        book, paper = dead(WILD, *first_book(WILD))
        self.assertEqual([row[2] for row in paper[1]][:4], [(), (1,), (1, 2), (1, 2)])
        self.assertEqual([row[2] for row in paper[1]][4:], [(1, 3), (1, 3), (1,), (), (), ()])


if __name__ == "__main__":
    unittest.main()
