"""dead and unused: what stands in no file, whatever the settings are."""

from tests.support import CallsTest, chunks, dead, read, run, texts, unused

NEVER = ["@if p", "@else", "@if p", "never", "@fi", "@fi"]


def places(*pairs):
    return [len(pairs)] + [number for pair in pairs for number in pair]


class DeadTest(CallsTest):
    def finds(self, lines, pairs, names):
        """These lines are dead and these chunks unused."""
        self.gives([read(*lines), dead(), unused()], [places(*pairs), texts(*names)])


class Nothing(DeadTest):
    def test_without_a_document(self):
        self.assertEqual(run(dead(), unused()), [[0], [0]])

    def test_prose_alone(self):
        self.finds(["words", "@@x"], [], [])

    def test_everything_stands(self):
        self.finds(["@file f", "", "@{a}", "@end", "words", *chunks(a="b", b="")], [], [])

    def test_before_and_behind_an_else(self):
        self.finds(["@file f", "@if p", "1", "@if q", "2", "@else", "3", "@fi", "@else", "4", "@if q", "5", "@fi", "@fi", "@end"],
                   [], [])


class Files(DeadTest):
    def test_a_setting_on_and_off(self):
        self.finds(["@file f", "@if p", "1", "@if p", "2", "@else", "never", "@fi", "@else", "@if p", "never", "@else", "3",
                    "@fi", "@fi", "@end"], [(0, 5), (0, 9)], [])

    def test_with_other_conditions_between(self):
        self.finds(["@file f", "@if p", "@if q", "@if r", "@else", "@if p", "1", "@else", "never", "@fi", "@fi", "@fi", "@fi",
                    "@end"], [(0, 7)], [])

    def test_different_settings_may_all_hold(self):
        ifs = [line for number in range(6) for line in ("@if c%d" % number, "@else")]
        self.finds(["@file f", *ifs, "x", *["@fi"] * 6, "@end"], [], [])

    def test_condition_lines_are_never_told(self):
        self.finds(["@file f", "@if p", "@else", "@if p", "@if q", "@fi", "@fi", "@fi", "@end", "@chunk a", "@if p", "@fi", "@end"],
                   [], ["a"])

    def test_empty_code_lines_are_told(self):
        self.finds(["@file f", "@if p", "@else", "@if p", "", "@fi", "@fi", "@end"], [(0, 3)], [])

    def test_what_a_file_needs_in_a_dead_line_alone_is_unused(self):
        self.finds(["@file f", "@if p", "@else", "@if p", "@{a}", "@fi", "@fi", "@end", *chunks(a="")],
                   [(0, 3), (1, 0)], ["a"])

    def test_a_file_is_not_unused(self):
        self.finds(["@file f", "@end", "@file g", "x", "@end"], [], [])

    def test_a_chunk_with_a_files_name(self):
        self.finds(["@file f", "@end", "@chunk f", "x", "@end"], [(1, 0)], ["f"])
        self.finds(["@file f", "@{f}", "@end", "@chunk f", "x", "@end"], [], [])


class Chunks(DeadTest):
    def test_a_chunk_that_no_file_reaches(self):
        self.finds(["@file f", "@{a}", "@end", *chunks(a="", b="", c="a")], [(2, 0), (3, 0)], ["b", "c"])

    def test_chunks_that_only_unused_chunks_use(self):
        self.finds(["@file f", "@end", *chunks(a="b", b="c", c="")], [(1, 0), (2, 0), (3, 0)], ["a", "b", "c"])

    def test_a_circle_that_no_file_reaches(self):
        self.finds(["@file f", "@{c}", "@end", *chunks(a="b", b="ac", c="")], [(1, 0), (2, 0)], ["a", "b"])

    def test_a_circle_that_a_file_reaches(self):
        self.finds(["@file f", "@{a}", "@end", *chunks(a="b", b="a")], [], [])

    def test_without_files(self):
        self.finds(chunks(a="b", b="a", c=""), [(0, 0), (1, 0), (2, 0)], ["a", "b", "c"])

    def test_a_chunk_without_lines_may_be_unused(self):
        self.finds(["@file f", "@end", "@chunk a", "@end"], [], ["a"])

    def test_only_reached_under_variants_under_which_a_line_is_not_live(self):
        self.finds(["@file f", "@if p", "@{a}", "@fi", "@end",
                    "@chunk a", "1", "@if p", "2", "@else", "dead", "@fi", "@if q", "3", "@else", "4", "@fi", "@end"],
                   [(1, 4)], [])

    def test_over_several_steps(self):
        self.finds(["@file f", "@if p", "@{a}", "@fi", "@end",
                    "@chunk a", "@if q", "@else", "@{b}", "@fi", "@end",
                    "@chunk b", "@if p", "1", "@if q", "dead", "@fi", "@else", "dead", "@if q", "dead", "@fi", "@fi", "@{c}", "@end",
                    "@chunk c", "@if q", "dead", "@fi", "@if r", "2", "@fi", "@end"],
                   [(2, 3), (2, 6), (2, 8), (3, 1)], [])

    def test_reached_on_no_way_whose_conditions_all_hold(self):
        self.finds(["@file f", "@if p", "@{a}", "@fi", "@end", "@chunk a", "@if p", "@else", "@{b}", "@fi", "@end", *chunks(b="")],
                   [(1, 2), (2, 0)], ["b"])

    def test_reached_on_two_ways_with_different_conditions(self):
        self.finds(["@file f", "@if p", "@{a}", "@else", "@{b}", "@fi", "@end",
                    "@chunk a", "@{c}", "@end", "@chunk b", "@if q", "@{c}", "@fi", "@end",
                    "@chunk c", "@if p", "1", "@else", "@if q", "2", "@else", "dead", "@fi", "@fi", "@end"],
                   [(3, 6)], [])

    def test_each_way_alone_is_not_enough_but_two_together_make_no_third(self):
        # c is reached with p on and q on, or with both off; a line for p on and q off stands nowhere.
        self.finds(["@file f", "@if p", "@if q", "@{c}", "@fi", "@else", "@if q", "@else", "@{c}", "@fi", "@fi", "@end",
                    "@chunk c", "@if p", "@if q", "1", "@else", "dead", "@fi", "@else", "@if q", "dead", "@else", "2", "@fi", "@fi",
                    "@end"],
                   [(1, 4), (1, 8)], [])

    def test_reached_by_different_files(self):
        self.finds(["@file f", "@if p", "@{a}", "@fi", "@end", "@file g", "@if q", "@{a}", "@fi", "@end",
                    "@chunk a", "@if p", "1", "@else", "@if q", "2", "@else", "dead", "@fi", "@fi", "@end"],
                   [(2, 6)], [])

    def test_a_line_that_is_live_under_no_variant(self):
        self.finds(["@file f", "@{a}", "@end", "@chunk a", *NEVER, "@end"], [(1, 3)], [])

    def test_several_parts_of_one_chunk(self):
        self.finds(["@chunk a", "@if p", "1", "@fi", "@end", "words", "@file f", "@if p", "@else", "@{a}", "@fi", "@end",
                    "@chunk a", "2", "@if p", "@{b}", "@fi", "@end", "@chunk b", "x", "y", "@end"],
                   [(0, 1), (3, 2), (4, 0), (4, 1)], ["b"])

    def test_a_need_of_one_part_counts_for_the_chunk(self):
        self.finds(["@chunk a", "@{b}", "@end", *chunks(b=""), "@file f", "@end", "@chunk a", "@end", "@file f", "@{a}", "@end"],
                   [], [])

    def test_unknown_uses(self):
        self.finds(["@file f", "@{x}@{f}", "@end", *chunks(a="x")], [(1, 0)], ["a"])

    def test_wrong_uses_reach_all_the_same(self):
        self.finds(["@file f", "@{a}", "@end", "@chunk a(x)", "y", "@end"], [], [])

    def test_literals_and_parameters_reach_nothing(self):
        self.finds(["@file f", "a@@{a}", "@{b(a)}", "@end", "@chunk b(a)", "@<a>a", "@end", *chunks(a="")], [(2, 0)], ["a"])

    def test_unused_chunks_come_in_the_order_of_the_nodes(self):
        self.finds([*chunks(c="a", b="", a="")], [(0, 0), (1, 0), (2, 0)], ["c", "a", "b"])

    def test_dead_lines_come_by_blocks_and_then_by_lines(self):
        self.finds(["words", "@chunk b", "1", "2", "@end", "words", "@chunk a", "3", "@end", "@chunk b", "", "4", "@end"],
                   [(1, 0), (1, 1), (3, 0), (4, 0), (4, 1)], ["b", "a"])


class Settled(DeadTest):
    def settings(self, count):
        """A file in which a setting more than are to be on in all stands off, and a chunk under each one."""
        names = ["s%d" % number for number in range(count)]
        uses = [line for name in names for line in ("@if " + name, "@{a}", "@fi")]
        offs = [line for name in names[:6] for line in ("@if " + name, "@else")]
        return ["@file f", *uses, "@end", "@chunk a", *offs, "x", *["@fi"] * 6, "@end"]

    def test_8_settings(self):
        # With s0 to s5 off, s6 or s7 leads to a.
        self.finds(self.settings(8), [], [])

    def test_6_settings(self):
        self.finds(self.settings(6), [(1, 12)], [])

    def test_9_settings(self):
        self.gives([read(*self.settings(9)), dead(), unused()], [[-7], [-7]])

    def test_many_settings(self):
        lines = [line for number in range(150) for line in ("@if s%d" % number, "@fi")]
        self.gives([read("@chunk a", *lines, "@end"), dead(), unused()], [[-7], [-7]])

    def test_settings_are_counted_once_each(self):
        lines = [line for number in range(100) for line in ("@if s%d" % (number % 8), "@fi")]
        self.finds(["@file f", *lines, "x", "@end"], [], [])

    def test_9_settings_without_a_line_under_them(self):
        lines = [line for number in range(9) for line in ("@if s%d" % number, "@fi")]
        self.gives([read("@file f", *lines, "@end"), dead(), unused()], [[-7], [-7]])

    def test_settings_over_several_parts(self):
        lines = []
        for number in range(9):
            lines += ["@chunk c%d" % number, "@if s%d" % number, "@fi", "@end"]
        self.gives([read(*lines), dead(), unused(), read(*lines[4:]), dead(), unused()],
                   [[-7], [-7], [0, 8], [0], texts(*["c%d" % number for number in range(1, 9)])])

    def test_a_way_on_which_each_of_8_settings_is_asked(self):
        lines = ["@file f", "@{c0}", "@end"]
        for number in range(8):
            lines += ["@chunk c%d" % number, "@if s%d" % number, "@{c%d}" % (number + 1), "@fi", "@end"]
        lines += ["@chunk c8"]
        for number in range(8):
            lines += ["@if s%d" % number, "live", "@else", "dead", "@fi"]
        self.finds([*lines, "@end"], [(9, 5 * number + 3) for number in range(8)], [])

    def test_a_refused_or_faulty_read_changes_nothing(self):
        document = read("@file f", "@end", *chunks(a=""))
        self.gives([document, [0, 20001] + [10] * 20001, read("@end"), dead(), unused()],
                   [[-6], [1, 2], places((1, 0)), texts("a")])
