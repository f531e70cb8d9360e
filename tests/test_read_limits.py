"""read: how many bytes, blocks, chunk parts and lines a document may have (the refusal -6 and reason 6)."""

from tests.support import CallsTest, ended, read, read_text, run

PROSE = ["x"]
EMPTY_PART = ["@chunk a", "@end"]


def part_of(count, line="x"):
    return ["@chunk a"] + [line] * count + ["@end"]


class Bytes(CallsTest):
    def text_of(self, count):
        """A text of one part and prose with this many bytes."""
        full = ended(*["y" * 199] * 99)
        return full + "z" * (count - len(full) - 1) + "\n"

    def test_20000_bytes_and_20001(self):
        good = self.text_of(20000)
        self.assertEqual(len(good), 20000)
        self.assertEqual(run(read_text(good)), [[0, 100]])
        self.assertEqual(run(read_text(self.text_of(20001))), [[-6]])
        self.assertEqual(run(read_text("\n" * 24000)), [[-6]])

    def test_too_many_bytes_come_before_every_fault(self):
        self.assertEqual(run(read_text("@" * 20000)), [[1, 1]])
        self.assertEqual(run(read_text("@" * 20001)), [[-6]])
        self.assertEqual(run(read_text([255] * 24000)), [[-6]])


class Blocks(CallsTest):
    def test_200_and_one_more(self):
        self.reads(200, *PROSE * 200)
        self.faults(201, 6, *PROSE * 201)
        self.faults(201, 6, *PROSE * 200, "@chunk a", "@end")
        self.faults(201, 6, *PROSE * 200, "@file a", "@end")
        self.faults(201, 6, *PROSE * 200, "@@")
        self.faults(201, 6, *PROSE * 200, "")

    def test_parts_are_blocks(self):
        self.reads(200, *EMPTY_PART * 60, *PROSE * 140)
        self.faults(261, 6, *EMPTY_PART * 60, *PROSE * 141)
        self.reads(200, *PROSE * 199, *part_of(3))
        self.faults(205, 6, *PROSE * 199, *part_of(3), "x")

    def test_lines_of_the_200th_block_are_no_blocks(self):
        self.reads(200, *PROSE * 199, *part_of(400))

    def test_reasons_before_6(self):
        self.faults(201, 2, *PROSE * 200, "@nothing")
        self.faults(201, 1, *PROSE * 200, "x" * 201)
        self.assertEqual(run(read_text(ended(*PROSE * 200) + "x")), [[201, 1]])


class Parts(CallsTest):
    def test_60_and_one_more(self):
        self.reads(60, *EMPTY_PART * 60)
        self.faults(121, 6, *EMPTY_PART * 61)
        self.faults(121, 6, *EMPTY_PART * 60, "@file a", "@end")
        self.reads(61, *EMPTY_PART * 60, "x")

    def test_files_and_chunks_together(self):
        self.reads(60, *EMPTY_PART * 30, *["@file a", "@end"] * 30)
        self.faults(121, 6, *EMPTY_PART * 30, *["@file a", "@end"] * 31)

    def test_6_comes_before_7(self):
        self.faults(3, 7, *EMPTY_PART, "@chunk a(x)", "@end")
        self.faults(121, 6, *EMPTY_PART * 60, "@chunk a(x)", "@end")
        self.faults(122, 6, *EMPTY_PART, *["@chunk b", "@end"] * 59, "y", "@chunk a(x)", "@end")

    def test_2_comes_before_6(self):
        self.faults(121, 2, *EMPTY_PART * 60, "@chunk a(x, x)", "@end")


class Lines(CallsTest):
    def test_400_and_one_more(self):
        self.reads(1, *part_of(400))
        self.faults(402, 6, *part_of(401))
        self.faults(402, 6, *part_of(401, ""))

    def test_in_all_parts_together(self):
        self.reads(2, *part_of(399), *part_of(1))
        self.reads(3, *part_of(400), *part_of(0), *part_of(0))
        self.faults(404, 6, *part_of(400), *part_of(1))
        self.reads(40, *part_of(10) * 40)
        self.faults(482, 6, *part_of(10) * 40, *part_of(1))

    def test_condition_lines_are_lines(self):
        self.reads(1, "@chunk a", *["@if x", "@fi"] * 200, "@end")
        for line in ["@if x", "x", "@{b}"]:
            self.faults(402, 6, "@chunk a", *["@if x", "@fi"] * 200, line, "@end")
        self.faults(402, 6, "@chunk a", *["x"] * 399, "@if x", "@fi", "@end")
        self.faults(402, 6, "@chunk a", *["x"] * 399, "@if x", "@else", "@end")

    def test_prose_is_no_line_of_a_part(self):
        self.reads(101, *PROSE * 100, *part_of(400))

    def test_reasons_before_6(self):
        self.faults(402, 3, *part_of(400)[:-1], "@")
        self.faults(402, 4, *part_of(400)[:-1], "@fi")
        self.faults(402, 4, *part_of(400)[:-1], "@else")
        self.faults(402, 4, "@chunk a", *["x"] * 399, "@if x", "@end")
        self.faults(402, 4, "@chunk a", *["x"] * 394, *["@if x"] * 6, "@if x")
        self.faults(402, 5, *part_of(400)[:-1], "@<x>")
        self.faults(402, 8, *part_of(400)[:-1])

    def test_a_new_read_counts_anew(self):
        self.gives([read(*["x"] * 120, *part_of(380)), read(*["x"] * 120, *part_of(380))], [[0, 121], [0, 121]])
