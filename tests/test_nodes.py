"""nodes, unknown, wrong, needs, users and size."""

from tests.support import (
    CallsTest, marked, needs, node_rows, nodes, read, run, size, texts, unknown, users, wrong)

EVERYTHING = [nodes(), unknown(), wrong(), size()]


class NoDocument(CallsTest):
    def test_an_object_that_nothing_was_read_into(self):
        self.assertEqual(run(*EVERYTHING), [[0], [0], [0], [0, 0, 0, 0]])
        self.assertEqual(run(needs(0, "a"), needs(1, "a"), users("a"), needs(0, ""), needs(1, ""), users("")), [[-3]] * 6)

    def test_prose_alone(self):
        self.gives([read("a", "@@{b}"), *EVERYTHING], [[0], [0], [0], [0, 0, 0, 0]])


class Nodes(CallsTest):
    def test_files_come_ahead_of_chunks(self):
        self.gives([read("@chunk b", "@end", "@file z", "@end", "@chunk a(x, y)", "@end", "@file y", "@end"), nodes()],
                   [node_rows((1, "z", 1, 0), (1, "y", 1, 0), (0, "b", 1, 0), (0, "a", 1, 2))])

    def test_several_parts_of_one_name(self):
        self.gives([read("@chunk a(x)", "@end", "@file f", "@end", "@chunk b", "@end", "@chunk a(x)", "@end",
                         "@file f", "@end", "@file f", "@end"), nodes()],
                   [node_rows((1, "f", 3, 0), (0, "a", 2, 1), (0, "b", 1, 0))])

    def test_a_use_ahead_of_its_part_settles_the_order(self):
        self.gives([read("@chunk a", "x @{c} @{nowhere}@{b}", "@end", "@chunk b", "@end", "@chunk c(p)", "@end"), nodes()],
                   [node_rows((0, "a", 1, 0), (0, "c", 1, 1), (0, "b", 1, 0))])

    def test_a_use_within_a_file_stands_too(self):
        self.gives([read("@file f", "@if q", "@{b}", "@fi", "@end", "@chunk a", "@end", "@chunk b", "@end"), nodes()],
                   [node_rows((1, "f", 1, 0), (0, "b", 1, 0), (0, "a", 1, 0))])

    def test_a_file_and_a_chunk_of_one_name(self):
        self.gives([read("@chunk a(x)", "@end", "@file a", "@{a}", "@end"), nodes(), needs(1, "a"), needs(0, "a")],
                   [node_rows((1, "a", 1, 0), (0, "a", 1, 1)), texts("a"), texts()])

    def test_how_many_parameters(self):
        for count in range(1, 5):
            header = "@chunk a(" + ", ".join("pqrs"[:count]) + ")"
            self.gives([read(header, "@end"), nodes()], [node_rows((0, "a", 1, count))])

    def test_prose_makes_no_node(self):
        self.gives([read("chunk a", "@@{a}", "@@chunk a"), nodes()], [[0]])


class Unknown(CallsTest):
    def test_blocks_lines_and_pieces_are_counted_from_0(self):
        self.gives([read("words", "@chunk a", "", "@if q", "x@{no}y@@@{a}@{no}", "@fi", "@end", "words", "@file f",
                         "@{nope(x)}", "@end"), unknown()],
                   [[3, 1, 2, 1, 1, 2, 4, 3, 0, 0]])

    def test_parameters_are_pieces_and_doubled_ats_part_none(self):
        self.gives([read("@chunk a(x)", "@<x>@<x>@@b@@@{c}", "@end"), unknown()], [[1, 0, 0, 3]])

    def test_a_part_that_comes_later_makes_a_use_known(self):
        self.gives([read("@chunk a", "@{b}", "@end", "@chunk b", "@end"), unknown()], [[0]])

    def test_a_file_is_no_chunk(self):
        self.gives([read("@file f", "@{f}", "@end"), unknown(), wrong(), needs(1, "f"), users("f")],
                   [[1, 0, 0, 0], [0], texts(), [-3]])

    def test_an_unknown_use_is_not_wrong(self):
        self.gives([read("@chunk a", "@{b(x, y)}@{b}", "@end"), unknown(), wrong()], [[2, 0, 0, 0, 0, 0, 1], [0]])

    def test_lines_that_are_never_live_count(self):
        self.gives([read("@chunk a", "@if q", "@else", "@if q", "@{b}", "@fi", "@fi", "@end"), unknown()],
                   [[1, 0, 3, 0]])

    def test_lines_are_counted_anew_in_each_part(self):
        self.gives([read("@chunk a", "x", "x", "@end", "@chunk a", "@{b}", "@end"), unknown()], [[1, 1, 0, 0]])


class Wrong(CallsTest):
    def test_no_arguments_and_one_empty_one(self):
        self.gives([read("@chunk a", "@{a}@{a()}", "@end", "@chunk b(x)", "@{b}@{b()}", "@end"), wrong()],
                   [[2, 0, 0, 1, 1, 0, 0]])

    def test_too_few_and_too_many(self):
        self.gives([read("@file f", "@{b}", "@{b(1)}", "@{b(1, 2)}", "@{b(1, 2, 3)}", "@{b(, )}", "@{b(, , )}", "@end",
                         "@chunk b(x, y)", "@end"), wrong()],
                   [[4, 0, 0, 0, 0, 1, 0, 0, 3, 0, 0, 5, 0]])

    def test_more_than_four_arguments(self):
        self.gives([read("@chunk a(p, q, r, s)", "@{a(1, 2, 3, 4)}@{a(1, 2, 3, 4, 5)}", "@end"), wrong()], [[1, 0, 0, 1]])

    def test_in_the_order_of_the_text(self):
        self.gives([read("@chunk b", "@{a}", "@end", "", "@chunk a(x)", "@end", "@file f", "x", "y@{b(z)}@{a}", "@end"),
                    wrong()],
                   [[3, 0, 0, 0, 3, 1, 1, 3, 1, 2]])

    def test_a_wrong_use_is_a_need_all_the_same(self):
        self.gives([read("@file f", "@{b}", "@end", "@chunk b(x)", "@end"), needs(1, "f"), users("b")],
                   [texts("b"), marked((1, "f"))])


FIRST = read("@file f", "@{c}@{a}@{c}@{nowhere}", "@end",
             "@chunk a", "@if q", "@{b}", "@else", "@{a}", "@fi", "@end",
             "@chunk b", "@end",
             "@chunk a", "@{c(x)}", "@end",
             "@chunk c", "@{nowhere}", "@end",
             "@file g", "@{b}", "@end")


class Needs(CallsTest):
    def test_in_the_order_of_the_nodes(self):
        self.gives([FIRST, needs(1, "f"), needs(1, "g"), needs(0, "a"), needs(0, "b"), needs(0, "c")],
                   [texts("c", "a"), texts("b"), texts("c", "a", "b"), texts(), texts()])

    def test_the_order_of_the_nodes_is_not_that_of_the_uses(self):
        self.gives([read("@chunk a", "@end", "@chunk b", "@end", "@file f", "@{b}@{a}", "@end"), needs(1, "f")],
                   [texts("a", "b")])

    def test_literals_and_parameters_are_no_uses(self):
        self.gives([read("@chunk a(b)", "c", "@<b>", "@if d", "c@<b>", "@fi", "@end", "@chunk d", "@end", "@chunk c", "@end",
                         "@chunk b", "@end"), nodes(), needs(0, "a"), users("b"), users("c"), unknown(), size()],
                   [node_rows((0, "a", 1, 1), (0, "d", 1, 0), (0, "c", 1, 0), (0, "b", 1, 0)), texts(), [0], [0], [0],
                    [4, 0, 1, 3]])

    def test_needs_are_no_ways(self):
        self.gives([read("@file f", "@{a}", "@end", "@chunk a", "@{b}", "@end", "@chunk b", "@end"), needs(1, "f")],
                   [texts("a")])

    def test_refusals(self):
        self.gives([FIRST, needs(2, "f"), needs(-1, "f"), needs(10 ** 12, "nothing"), needs(-10 ** 12, ""), needs(0, "f"),
                    needs(1, "a"), needs(1, "nowhere"), needs(0, "nowhere"), needs(0, ""), needs(1, "f "), needs(0, "A"),
                    needs(1, [255] * 500), needs(0, "q")],
                   [[-2]] * 4 + [[-3]] * 9)


class Users(CallsTest):
    def test_files_ahead_of_chunks_in_their_order(self):
        self.gives([FIRST, users("c"), users("a"), users("b")],
                   [marked((1, "f"), (0, "a")), marked((1, "f"), (0, "a")), marked((1, "g"), (0, "a"))])

    def test_no_users(self):
        self.gives([read("@chunk a", "@end"), users("a")], [[0]])

    def test_a_chunk_may_use_itself(self):
        self.gives([read("@chunk a", "@if q", "@{a}", "@fi", "@end"), users("a")], [marked((0, "a"))])

    def test_users_of_users_are_none(self):
        self.gives([read("@file f", "@{a}", "@end", "@chunk a", "@{b}", "@end", "@chunk b", "@end"), users("b")],
                   [marked((0, "a"))])

    def test_names_of_several_words(self):
        self.gives([read("@file a/b", "@{one two-3}", "@end", "@chunk one two-3", "@end"), users("one two-3")],
                   [marked((1, "a/b"))])

    def test_refusals(self):
        self.gives([FIRST, users("f"), users("nowhere"), users(""), users([0, 255]), users("a" * 1000)], [[-3]] * 5)


class Size(CallsTest):
    def test_nodes_uses_settings_code_lines(self):
        self.gives([FIRST, size()], [[5, 9, 1, 6]])

    def test_empty_lines_are_code_lines_and_condition_lines_are_not(self):
        self.gives([read("p", "@chunk a", "", "@if q", "@else", "@fi", "x", "@end", "", "@file f", "@end"), size()],
                   [[2, 0, 1, 2]])

    def test_each_setting_counts_once(self):
        self.gives([read("@chunk a", "@if q", "@if r", "@fi", "@if q", "@fi", "@fi", "@end",
                         "@file b", "@if r", "@fi", "@if s", "@fi", "@end"), size()],
                   [[2, 0, 3, 0]])

    def test_unknown_uses_count_and_make_no_node(self):
        self.gives([read("@chunk a", "@{b}@{b}x@{a()}@@{c}", "@end"), size()], [[1, 3, 0, 1]])

    def test_a_node_of_several_parts_counts_once(self):
        self.gives([read("@chunk a", "1", "@end", "@chunk a", "2", "@end", "@file a", "3", "@end"), size()], [[2, 0, 0, 3]])

    def test_all_together(self):
        document = read("words", "@file f", "@if p", "@{a}@{a}@{x}", "@else", "", "@fi", "@end",
                        "@chunk a", "@if q", "@if p", "t@{b(1)}", "@fi", "@fi", "@end", "@file g", "@{x}", "@end",
                        "@chunk b", "@end", "@chunk a", "u", "v", "@end")
        self.gives([document, size(), read("@end"), size()], [[4, 5, 2, 6], [1, 2], [4, 5, 2, 6]])
