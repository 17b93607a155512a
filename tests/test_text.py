import unittest

from helpers import TOP, constant_segment, image_of
from restitch.codes import OPS, decode, encode
from restitch.errors import AssemblyError
from restitch.text import assemble, show_code, show_instruction

THREE = ("add", "sub", "mul", "and", "or", "xor", "shl", "shr", "sar", "slt", "sltu", "divu", "remu")
IMMEDIATE = ("addi", "andi", "ori", "xori", "shli", "shri", "sari", "slti")
WITH_BASE = ("lw", "lb", "lbu", "sw", "sb", "jalr")
BRANCHES = ("beq", "bne", "blt", "bge", "bltu", "bgeu")


def texts():
    """Pairs of an instruction and its text, each op with registers 0 and 15 and its bounds."""
    found = []
    for op in THREE:
        found += [((op, 0, 15, 0), f"{op} r0, r15, r0"), ((op, 15, 0, 15), f"{op} r15, r0, r15")]
    for op in (*IMMEDIATE, *WITH_BASE, *BRANCHES):
        found += [((op, 0, 15, -8192), f"{op} r0, r15, -8192"), ((op, 15, 0, 8191), f"{op} r15, r0, 8191")]
        found += [((op, 3, 4, 0), f"{op} r3, r4, 0"), ((op, 3, 4, -1), f"{op} r3, r4, -1")]
    found += [(("lui", 0, 0), "lui r0, 0"), (("lui", 15, 2 ** 18 - 1), "lui r15, 262143")]
    found += [(("jal", 0, -131072), "jal r0, -131072"), (("jal", 15, 131071), "jal r15, 131071")]
    for op in ("get", "put", "exit"):
        found += [((op, 0), f"{op} r0"), ((op, 15), f"{op} r15")]
    return found


class Show(unittest.TestCase):
    def test_the_text_of_each_op(self):
        self.assertEqual({instruction[0] for instruction, _ in texts()}, set(OPS))
        for instruction, text in texts():
            self.assertEqual(show_instruction(instruction), text)

    def test_assemble_of_the_text_is_the_word(self):
        for instruction, text in texts():
            self.assertEqual(assemble(text), [encode(instruction)], text)
        self.assertEqual(
            assemble("\n".join(text for _, text in texts())), [encode(instruction) for instruction, _ in texts()],
        )

    def test_show_code_of_instructions_and_other_words(self):
        image = image_of([("addi", 1, 0, -1), 0, 39 << 26, TOP, ("add", 1, 2, 3), encode(("add", 1, 2, 3)) + 1])
        self.assertEqual(show_code(image, 0, 6), [
            "00000000: addi r1, r0, -1", "00000004: word 00000000", "00000008: word 9c000000",
            "0000000c: word ffffffff", "00000010: add r1, r2, r3", "00000014: word 0448c001",
        ])
        self.assertEqual(show_code(image, 0, 0), [])
        self.assertEqual(show_code(image, 16, 1), ["00000010: add r1, r2, r3"])

    def test_show_code_where_nothing_can_be_fetched(self):
        image = image_of([("get", 1)], constant_segment(68, (0,) * 4), address=64)
        self.assertEqual(show_code(image, 60, 4), [
            "0000003c: none", "00000040: get r1", "00000044: none", "00000048: none",
        ])
        self.assertEqual(show_code(image, 65, 2), ["00000041: none", "00000045: none"])

    def test_show_code_past_the_last_address(self):
        image = image_of([("put", 1)], (0, (0, 0, 0, 0), False, True), address=2 ** 32 - 4)
        self.assertEqual(show_code(image, 2 ** 32 - 8, 4), [
            "fffffff8: none", "fffffffc: put r1", "00000000: word 00000000", "00000004: none",
        ])


class Lines(unittest.TestCase):
    def test_empty_lines_remarks_and_labels_are_no_words(self):
        self.assertEqual(assemble(""), [])
        self.assertEqual(assemble("\n\n   \n"), [])
        self.assertEqual(assemble("# get r1\n#\n# name:\n  # ahead"), [])
        self.assertEqual(assemble("a:\nb_1:\n" + "a" * 30 + ":"), [])
        self.assertEqual(assemble("#\n\nget r1\na:\n\nput r1\n"), [encode(("get", 1)), encode(("put", 1))])

    def test_blanks_around_words_and_commas(self):
        wanted = [encode(("add", 1, 2, 3))]
        for line in ("add r1,r2,r3", "  add   r1  ,  r2,   r3   ", "add r1 ,r2 ,r3 "):
            self.assertEqual(assemble(line), wanted, line)
        self.assertEqual(assemble("  word   7  "), [7])
        self.assertEqual(assemble("  loop:  \n  beq r1 , r2 , loop  "), [encode(("beq", 1, 2, 0))])

    def test_words(self):
        self.assertEqual(assemble("word 0\nword 4294967295\nword 10"), [0, TOP, 10])
        for text in ("4294967296", "-1", "99999999999999999999", "9" * 5000, "", "x", "1, 2", "0x10", "01", "1_0"):
            self.fails("word " + text, 1)

    def fails(self, text, line):
        with self.assertRaises(AssemblyError) as caught:
            assemble(text)
        self.assertEqual(caught.exception.line, line, text)

    def test_labels_ahead_and_behind(self):
        text = "top:\nget r1\nbeq r1, r0, end\nput r1\njal r0, top\nend:\nexit r1"
        wanted = [("get", 1), ("beq", 1, 0, 3), ("put", 1), ("jal", 0, -3), ("exit", 1)]
        self.assertEqual(assemble(text), [encode(instruction) for instruction in wanted])

    def test_lines_that_are_no_words_do_not_count_between_a_jump_and_its_label(self):
        text = "beq r1, r2, end\n\n# remark\n  # remark:\nother:\nword 7\n\nend:\nget r1\n#\njal r0, other"
        self.assertEqual(assemble(text), [encode(("beq", 1, 2, 2)), 7, encode(("get", 1)), encode(("jal", 0, -2))])

    def test_the_example_of_the_document(self):
        words = assemble("get r1\nbeq r1, r0, 3\nput r1\njal r0, -3\nexit r1")
        self.assertEqual([decode(word)[0] for word in words], ["get", "beq", "put", "jal", "exit"])
        self.assertEqual(assemble("addi r1, r0, -1"), [943734783])

    def test_each_branch_and_jal_takes_a_label_and_nothing_else_does(self):
        for op in BRANCHES:
            self.assertEqual(assemble(f"{op} r1, r2, here\nhere:"), [encode((op, 1, 2, 1))])
        self.assertEqual(assemble("jal r1, here\nhere:"), [encode(("jal", 1, 1))])
        for line in ("jalr r1, r2, here", "addi r1, r2, here", "lui r1, here", "lw r1, r2, here", "word here"):
            self.fails("here:\n" + line, 2)
        self.fails("here:\nbeq here, r1, here", 2)

    def test_a_label_may_look_like_a_word(self):
        self.assertEqual(assemble("r1:\njal r1, r1\nadd:\nword:\njal r0, word"), [
            encode(("jal", 1, 0)), encode(("jal", 0, 0)),
        ])

    def test_two_labels_at_one_place(self):
        self.assertEqual(assemble("a:\nb:\njal r0, a\njal r0, b"), [encode(("jal", 0, 0)), encode(("jal", 0, -1))])

    def test_distances_of_branches(self):
        gap = "word 0\n"
        self.assertEqual(assemble("beq r0, r1, far\n" + gap * 8190 + "far:")[0], encode(("beq", 0, 1, 8191)))
        self.fails("beq r0, r1, far\n" + gap * 8191 + "far:", 1)
        self.assertEqual(assemble("far:\n" + gap * 8192 + "beq r0, r1, far")[-1], encode(("beq", 0, 1, -8192)))
        self.fails("far:\n" + gap * 8193 + "beq r0, r1, far", 8195)

    def test_distances_of_jal(self):
        gap = "word 0\n"
        self.assertEqual(assemble("jal r0, far\n" + gap * 131070 + "far:")[0], encode(("jal", 0, 131071)))
        self.fails("jal r0, far\n" + gap * 131071 + "far:", 1)
        self.assertEqual(assemble("far:\n" + gap * 131072 + "jal r0, far")[-1], encode(("jal", 0, -131072)))
        self.fails("far:\n" + gap * 131073 + "jal r0, far", 131075)


class Wrong(unittest.TestCase):
    def fails(self, line):
        """The line fails where it stands, and the first line that fails is told."""
        for text, number in ((line, 1), (f"get r1\n\n# x\n{line}\nput r1", 4), (f"{line}\n{line}\nadd", 1)):
            with self.assertRaises(AssemblyError) as caught:
                assemble(text)
            self.assertEqual(caught.exception.line, number, line)

    def test_unknown_ops(self):
        for line in ("nop", "addx r1, r2, r3", "ADD r1, r2, r3", "addr1, r2, r3", "add: get r1", "get r1; put r1"):
            self.fails(line)

    def test_registers(self):
        for name in ("r16", "r-1", "r", "1", "R1", "r01", "r 1", "r1x", "x1", "r+1", "r1_0", "r99999999999"):
            for line in (f"get {name}", f"add {name}, r1, r2", f"add r1, {name}, r2", f"add r1, r2, {name}"):
                self.fails(line)

    def test_immediates(self):
        for number in ("8192", "-8193", "99999999999999"):
            for line in (f"addi r1, r2, {number}", f"sw r1, r2, {number}", f"beq r1, r2, {number}"):
                self.fails(line)
        for line in ("lui r1, 262144", "lui r1, -1", "jal r1, 131072", "jal r1, -131073"):
            self.fails(line)

    def test_numbers_in_another_form(self):
        for number in ("+1", "01", "-0", "--1", "- 1", "0x1", "1.0", "1e3", "1_0", "", "one", "-", "1 2", "\u0661"):
            for op in ("addi r1, r2", "beq r1, r2", "lui r1", "jal r1"):
                self.fails(f"{op}, {number}")

    def test_operands_too_few_and_too_many(self):
        for instruction, text in texts():
            self.fails(text + ", r1")
            self.fails(text + ", 1")
            self.fails(text + ",")
            self.fails(text.rpartition(",")[0] or instruction[0])
            self.fails(text.replace(" ", " ,", 1))
            self.fails(instruction[0])
        for line in ("add r1 r2 r3", "get r1 r2", "word", "word 1 2", "word 1,"):
            self.fails(line)

    def test_labels(self):
        for line in ("1a:", "A:", "a b:", "_a:", ":", "a-b:", "a" * 31 + ":", "a::", "a: get r1", "a:#", "a :"):
            self.fails(line)
        for line in ("jal r0, nowhere", "beq r1, r2, nowhere", "jal r0, no where", "jal r0, top:"):
            self.fails(line)

    def test_a_label_that_an_earlier_line_has(self):
        with self.assertRaises(AssemblyError) as caught:
            assemble("a:\nget r1\na:\na:")
        self.assertEqual(caught.exception.line, 3)

    def test_other_signs_between_words(self):
        for line in ("get\tr1", "get r1\r", "\tget r1", "get r1 # why", "get\u00a0r1"):
            self.fails(line)

    def test_the_first_of_several_lines(self):
        cases = (
            ("jal r0, a\na:\na:\nadd", 3), ("jal r0, b\na:\na:\nadd", 1), ("a:\nadd\na:", 2),
            ("get r1\nget r16\nfoo", 2), ("foo\nget r16", 1), ("jal r0, a\nfoo\na:", 2),
        )
        for text, number in cases:
            with self.assertRaises(AssemblyError) as caught:
                assemble(text)
            self.assertEqual(caught.exception.line, number, text)


if __name__ == "__main__":
    unittest.main()
