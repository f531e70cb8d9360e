"""live: whether a line is live under a variant."""

from tests.support import CallsTest, live, read, run

FILE = ["always", "@if p", "on", "@if q", "both", "@else", "pnotq", "@fi", "on", "@else", "off", "@fi", ""]

CHUNK = ["@if p", "@else", "@if p", "never", "@fi", "@{a}@<x>", "@fi"]

# The file is block 1, the chunk's parts are blocks 3 and 4.
DOCUMENT = read("words", "@file f", *FILE, "@end", "more words", "@chunk a(x)", *CHUNK, "@end", "@chunk a(x)", "@end")


class Live(CallsTest):
    def lives(self, line, *variants):
        """Of all variants of p and q the line of block 1 is live under these alone."""
        every = ["", "p", "q", "p q"]
        self.gives([DOCUMENT, *[live(1, line, variant) for variant in every]],
                   [[1 if variant in variants else 0] for variant in every])

    def test_lines_under_no_condition(self):
        self.lives(0, "", "p", "q", "p q")

    def test_before_the_else(self):
        self.lives(2, "p", "p q")

    def test_conditions_within_conditions(self):
        self.lives(4, "p q")
        self.lives(6, "p")

    def test_behind_an_inner_condition(self):
        self.lives(8, "p", "p q")

    def test_behind_the_else(self):
        self.lives(10, "", "q")

    def test_behind_the_end_of_if(self):
        self.lives(12, "", "p", "q", "p q")

    def test_conditions_that_cannot_all_hold(self):
        self.gives([DOCUMENT, live(3, 3, ""), live(3, 3, "p"), live(3, 3, "p q")], [[0], [0], [0]])

    def test_a_line_of_a_chunk(self):
        self.gives([DOCUMENT, live(3, 5, ""), live(3, 5, "p"), live(3, 5, "q")], [[1], [0], [1]])

    def test_a_chunk_that_no_file_reaches(self):
        self.gives([read("@chunk a", "x", "@end"), live(0, 0)], [[1]])

    def test_settings_that_the_document_does_not_have(self):
        self.gives([DOCUMENT, live(1, 2, "z"), live(1, 2, "pp z p"), live(1, 10, "z pp"), live(1, 0, "abcdefghijkl")],
                   [[0], [1], [1], [1]])

    def test_the_same_setting_twice(self):
        self.gives([DOCUMENT, live(1, 4, "q p q"), live(1, 6, "p p")], [[1], [1]])

    def test_six_conditions(self):
        document = read("@file f", *["@if c%d" % number for number in range(6)], "x", "@else", "y", *["@fi"] * 6, "z", "@end")
        self.gives([document, live(0, 6, "c0 c1 c2 c3 c4 c5"), live(0, 6, "c0 c1 c2 c3 c4"), live(0, 8, "c4 c3 c2 c1 c0"),
                    live(0, 8, "c0 c1 c2 c3 c4 c5"), live(0, 8, "c1 c2 c3 c4"), live(0, 15, "")],
                   [[1], [0], [1], [0], [0], [1]])

    def test_more_than_8_settings(self):
        document = read("@file f", *["@if c%d\n@fi" % number for number in range(9)], "@if c8", "x", "@fi", "@end")
        self.gives([document, live(0, 19, "c8"), live(0, 19, "c7")], [[1], [0]])

    def test_lines_are_counted_anew_in_each_part(self):
        document = read("@chunk a", "@if p", "x", "@fi", "@end", "@chunk a", "@if q", "x", "@fi", "@end")
        self.gives([document, live(0, 1, "p"), live(1, 1, "p"), live(0, 1, "q"), live(1, 1, "q")], [[1], [0], [0], [1]])


class Refusals(CallsTest):
    def test_no_block(self):
        self.gives([DOCUMENT, live(-1, 0), live(5, 0), live(10 ** 12, 0), live(-10 ** 12, 0), live(-4, 0), live(4, 0)],
                   [[-2]] * 6)
        self.gives([read("words"), live(0, 0), live(1, 0), live(-1, 0)], [[-4], [-2], [-2]])

    def test_prose(self):
        self.gives([DOCUMENT, live(0, 0), live(2, 0), live(2, -1), live(2, 5)], [[-4]] * 4)

    def test_no_line(self):
        self.gives([DOCUMENT, live(1, -1), live(1, 13), live(1, 12), live(1, 10 ** 12), live(1, -10 ** 12), live(1, -13),
                    live(4, 0), live(3, 7), live(3, 5)],
                   [[-2], [-2], [1], [-2], [-2], [-2], [-2], [-2], [1]])

    def test_condition_lines(self):
        self.gives([DOCUMENT, live(1, 1), live(1, 5), live(1, 7), live(1, 9, "p"), live(1, 11), live(3, 0)], [[-5]] * 6)

    def test_no_variant(self):
        for variant in [" ", "p ", " p", "p  q", "P", "1p", "p-q", "p, q", "abcdefghijklm", [0], "p\n"]:
            self.gives([DOCUMENT, live(1, 0, variant)], [[-1]])

    def test_the_order_of_several(self):
        self.gives([DOCUMENT, live(-1, -1, "P"), live(5, 0, "P"), live(0, -1, "P"), live(2, 99, "P"), live(1, 13, "P"),
                    live(1, -1, "P"), live(1, 1, "P"), live(1, 0, "P")],
                   [[-2], [-2], [-4], [-4], [-2], [-2], [-5], [-1]])

    def test_without_a_document(self):
        self.assertEqual(run(live(0, 0), live(-1, 0), live(0, 0, "P")), [[-2]] * 3)

    def test_a_read_that_is_refused_or_faulty_changes_nothing(self):
        self.gives([DOCUMENT, [0, 20001] + [10] * 20001, read("@fi"), live(1, 2, "p"), live(0, 0), live(5, 0)],
                   [[-6], [1, 2], [1], [-4], [-2]])

    def test_only_the_last_document_counts(self):
        self.gives([DOCUMENT, read("@chunk a", "x", "@end"), live(0, 0), live(1, 0), live(0, 1)], [[1], [-2], [-2]])
