"""copies: how often a chunk is put into a node under a variant."""

from tests.support import CallsTest, chunks, copies, read, run

MOST = 1000000000000000000


def file_of(*lines):
    return ["@file f", *lines, "@end"]


def product(*factors):
    """Chunks c0, c1, .. of which each uses the next one as often as is told; the last uses none."""
    lines = []
    for number, factor in enumerate(factors):
        lines += ["@chunk c%d" % number]
        while factor > 0:
            lines.append("@{c%d}" % (number + 1) * min(factor, 30))
            factor -= min(factor, 30)
        lines += ["@end"]
    return lines + ["@chunk c%d" % len(factors), "@end"]


class Counts(CallsTest):
    def puts(self, count, lines, *told):
        self.gives([read(*lines), copies(*told)], [[count]])

    def test_one_use(self):
        self.puts(1, [*file_of("@{a}"), *chunks(a="")], 1, "f", "a")

    def test_several_times_in_one_line(self):
        self.puts(3, [*file_of("@{a}x@{a}@{b}@{a}"), *chunks(a="", b="")], 1, "f", "a")

    def test_in_several_lines(self):
        self.puts(3, [*file_of("@{a}", "", "@{a}@{b}", "@{a}"), *chunks(a="", b="")], 1, "f", "a")

    def test_in_several_parts(self):
        self.puts(3, [*file_of("@{a}"), *chunks(a=""), *file_of("@{a}@{a}")], 1, "f", "a")
        self.puts(3, [*chunks(a="b", b="", c="b"), *chunks(a="bb")], 0, "a", "b")

    def test_through_a_chunk_in_between(self):
        self.puts(6, [*file_of("@{a}@{a}"), *chunks(a="bbb", b="")], 1, "f", "b")

    def test_on_several_ways(self):
        # 1 straight, 2 times 3 through a, 1 through c, and 1 time 3 through d and a.
        lines = [*file_of("@{b}@{a}@{a}", "@{c}@{d}"), *chunks(a="bbb", b="", c="b", d="a")]
        self.puts(11, lines, 1, "f", "b")
        self.puts(3, lines, 1, "f", "a")

    def test_a_use_counts_as_one_whatever_the_chunk_uses(self):
        self.puts(2, [*file_of("@{a}@{a}"), *chunks(a="bb", b="")], 1, "f", "a")

    def test_of_a_chunk(self):
        lines = [*file_of("@{a}@{a}"), *chunks(a="bbc", b="cc", c="")]
        self.puts(2, lines, 0, "a", "b")
        self.puts(5, lines, 0, "a", "c")
        self.puts(2, lines, 0, "b", "c")

    def test_a_chunk_in_itself(self):
        self.puts(0, chunks(a="b", b=""), 0, "a", "a")

    def test_a_chunk_that_is_not_put_in(self):
        lines = [*file_of("@{a}"), *chunks(a="", b="a")]
        self.puts(0, lines, 1, "f", "b")
        self.puts(0, lines, 0, "a", "b")
        self.puts(0, [*file_of(), *chunks(a="")], 1, "f", "a")

    def test_unknown_uses_put_nothing_in(self):
        self.puts(1, [*file_of("@{x}@{a}@{f}"), *chunks(a="x")], 1, "f", "a")

    def test_wrong_uses_put_in_all_the_same(self):
        self.puts(3, ["@file f", "@{a}@{a(1)}@{a(1, 2)}", "@end", "@chunk a(x)", "@end"], 1, "f", "a")

    def test_literals_and_parameters_put_nothing_in(self):
        self.puts(0, ["@chunk b(a)", "a@<a>@@{a}", "@end", *chunks(a="")], 0, "b", "a")

    def test_a_file_and_a_chunk_of_one_name(self):
        lines = ["@file a", "@{b}@{b}", "@end", *chunks(b="a", a="")]
        self.puts(2, lines, 1, "a", "a")
        self.puts(0, lines, 0, "a", "a")

    def test_the_order_of_the_parts_does_not_matter(self):
        for lines in [chunks(a="bb", b="ccc", c=""), chunks(c="", b="ccc", a="bb"), chunks(b="ccc", a="bb", c="")]:
            self.puts(6, lines, 0, "a", "c")


class Variants(CallsTest):
    lines = [*file_of("@{a}", "@if p", "@{a}@{b}", "@if q", "@{b}", "@fi", "@else", "@{c}@{c}", "@fi"),
             *chunks(c="a"),
             "@chunk b", "@if q", "@{a}@{a}@{a}", "@else", "@{a}", "@fi", "@end",
             *chunks(a="")]

    def test_lines_that_are_not_live_put_nothing_in(self):
        self.gives([read(*self.lines), *[copies(1, "f", "a", variant) for variant in ["", "p", "q", "p q", "q p q", "z p"]]],
                   [[3], [3], [3], [8], [8], [3]])
        self.gives([read(*self.lines), *[copies(1, "f", "b", variant) for variant in ["", "p", "q", "p q"]]],
                   [[0], [1], [0], [2]])

    def test_settings_that_the_document_does_not_have(self):
        self.gives([read(*self.lines), copies(0, "b", "a", "x y1"), copies(0, "b", "a", "x q")], [[1], [3]])

    def test_a_line_that_is_never_live(self):
        lines = [*file_of("@if p", "@if p", "@else", "@{a}", "@fi", "@fi"), *chunks(a="")]
        self.gives([read(*lines), copies(1, "f", "a", ""), copies(1, "f", "a", "p")], [[0], [0]])


class Greatest(CallsTest):
    def test_just_as_many_as_may_be(self):
        self.gives([read(*product(*[10] * 18)), copies(0, "c0", "c18")], [[MOST]])
        self.gives([read(*product(*[100] * 9)), copies(0, "c0", "c9")], [[MOST]])

    def test_one_more(self):
        lines = [*file_of("@{c0}", "@{c18}"), *product(*[10] * 18)]
        self.gives([read(*lines), copies(1, "f", "c18"), copies(0, "c0", "c18")], [[-8], [MOST]])

    def test_one_less(self):
        # 9 at each step and one way more on to the end: 9 + 90 + 900 + .. has the digit 9 alone.
        lines = []
        for number in range(18):
            lines += ["@chunk c%d" % number, "@{c%d}" % (number + 1) * 10, "@{last}" * 9, "@end"]
        lines += ["@chunk c18", "@end", "@chunk last", "@end"]
        self.gives([read(*lines), copies(0, "c0", "last"), copies(0, "c1", "last")], [[MOST - 1], [MOST // 10 - 1]])

    def test_above(self):
        self.gives([read(*product(*[10] * 19)), copies(0, "c0", "c19"), copies(0, "c1", "c19"), copies(0, "c0", "c18")],
                   [[-8], [MOST], [MOST]])
        self.gives([read(*product(*[2] * 59)), copies(0, "c0", "c59"), copies(0, "c0", "c60")], [[2 ** 59], [-4]])

    def test_far_above(self):
        lines = product(*[50] * 59)
        self.gives([read(*lines), copies(0, "c0", "c59"), copies(0, "c49", "c59"), copies(0, "c48", "c59")],
                   [[-8], [50 ** 10], [-8]])

    def test_only_the_answer_is_to_be_no_greater(self):
        lines = [*file_of("@{small}", "@if p", "@{c0}", "@fi"), "@chunk small", "@{c19}", "@end", *product(*[10] * 19)]
        self.gives([read(*lines), copies(1, "f", "c19", ""), copies(1, "f", "c19", "p"), copies(1, "f", "c0", "p")],
                   [[1], [-8], [1]])


class Refusals(CallsTest):
    lines = [*file_of("@{a}@{x}"), *chunks(a="b", b="")]

    def test_no_node(self):
        self.gives([read(*self.lines), copies(2, "f", "a"), copies(-1, "a", "a"), copies(10 ** 12, "f", "a"),
                    copies(-10 ** 12, "", ""), copies(0, "f", "a"), copies(1, "a", "a"), copies(0, "x", "a"), copies(0, "", "a"),
                    copies(1, [0] * 100, "a")],
                   [[-2]] * 4 + [[-3]] * 5)

    def test_no_chunk(self):
        self.gives([read(*self.lines), copies(1, "f", "f"), copies(1, "f", "x"), copies(1, "f", ""), copies(0, "a", "A"),
                    copies(0, "a", [255, 0]), copies(0, "a", "b ")],
                   [[-4]] * 6)

    def test_no_variant(self):
        for variant in [" ", "p ", " p", "p  q", "P", "1p", "p-q", "p, q", "abcdefghijklm", [0], "p\n"]:
            self.gives([read(*self.lines), copies(1, "f", "a", variant)], [[-1]])

    def test_a_circle_anywhere(self):
        lines = [*self.lines, *chunks(c="d", d="c")]
        self.gives([read(*lines), copies(1, "f", "a"), copies(0, "b", "b"), copies(0, "c", "d")], [[-9]] * 3)

    def test_a_circle_that_is_none_under_the_variant(self):
        lines = [*file_of("@{a}"), "@chunk a", "@if p", "@{a}", "@fi", "@end"]
        self.gives([read(*lines), copies(1, "f", "a", ""), copies(1, "f", "a", "p")], [[-9], [-9]])
        lines = [*file_of("@{a}"), "@chunk a", "@if p", "@else", "@if p", "@{a}", "@fi", "@fi", "@end"]
        self.gives([read(*lines), copies(1, "f", "a", "")], [[-9]])

    def test_the_order_of_several(self):
        lines = [*self.lines, *chunks(c="c")]
        self.gives([read(*lines), copies(2, "x", "x", "P"), copies(2, "f", "a"), copies(0, "x", "x", "P"), copies(0, "x", "a"),
                    copies(1, "f", "x", "P"), copies(1, "f", "x"), copies(1, "f", "a", "P"), copies(1, "f", "a")],
                   [[-2], [-2], [-3], [-3], [-4], [-4], [-1], [-9]])

    def test_a_circle_comes_ahead_of_a_great_answer(self):
        lines = [*product(*[10] * 19), *chunks(a="a")]
        self.gives([read(*lines), copies(0, "c0", "c19"), copies(0, "c0", "c19", "P")], [[-9], [-1]])
        self.gives([read(*product(*[10] * 19)), copies(0, "c0", "c19", "P"), copies(0, "c0", "c20", "P")], [[-1], [-4]])

    def test_without_a_document(self):
        self.assertEqual(run(copies(1, "f", "a", "P"), copies(2, "f", "a", "P"), copies(0, "", "")), [[-3], [-2], [-3]])

    def test_a_read_that_is_refused_or_faulty_changes_nothing(self):
        self.gives([read(*self.lines), [0, 20001] + [10] * 20001, read("@end"), copies(1, "f", "b")], [[-6], [1, 2], [1]])
