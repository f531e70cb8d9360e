"""circle: the least circle of the first node that has one."""

from tests.support import CallsTest, chunks, circle, nodes, node_rows, read, run, texts


class NoCircle(CallsTest):
    def test_without_a_document(self):
        self.assertEqual(run(circle()), [[0]])

    def test_prose_alone(self):
        self.gives([read("words", "@@{a}"), circle()], [[0]])

    def test_chunks_that_need_nothing(self):
        self.gives([read(*chunks(a="", b="")), circle()], [[0]])

    def test_several_ways_to_one_chunk_are_no_circle(self):
        self.gives([read("@file f", "@{a}@{b}", "@end", *chunks(a="cd", b="cd", c="d", d="")), circle()], [[0]])

    def test_a_file_that_uses_its_own_name(self):
        self.gives([read("@file f", "@{f}", "@end"), circle()], [[0]])

    def test_a_file_and_a_chunk_of_one_name(self):
        self.gives([read("@file a", "@{a}", "@end", *chunks(a="")), circle()], [[0]])

    def test_unknown_uses_lead_nowhere(self):
        self.gives([read(*chunks(a="x", b="xx")), circle()], [[0]])

    def test_literals_and_parameters_are_no_uses(self):
        self.gives([read("@chunk a(a)", "a@<a>@@{a}", "@end", "@@{a}"), circle()], [[0]])


class Circles(CallsTest):
    def test_a_chunk_that_needs_itself(self):
        self.gives([read(*chunks(a="a")), circle()], [texts("a", "a")])

    def test_two_that_need_each_other(self):
        self.gives([read(*chunks(a="b", b="a")), circle()], [texts("a", "b", "a")])

    def test_the_first_node_is_the_first_in_the_order_of_the_nodes(self):
        # The first chunk part is of a, but the first name that stands is b's, in the file.
        document = read("@file f", "@{b}", "@end", *chunks(a="b", b="a"))
        self.gives([document, circle()], [texts("b", "a", "b")])

    def test_of_several_circles_that_of_the_first_node(self):
        self.gives([read(*chunks(a="b", b="c", c="a", d="d")), circle()], [texts("a", "b", "c", "a")])

    def test_a_smaller_circle_of_a_later_node_does_not_count(self):
        self.gives([read(*chunks(a="b", b="bc", c="a")), circle()], [texts("a", "b", "c", "a")])

    def test_of_the_first_nodes_circles_the_least(self):
        self.gives([read(*chunks(a="bd", b="c", c="a", d="a")), circle()], [texts("a", "d", "a")])
        self.gives([read(*chunks(a="ba", b="a")), circle()], [texts("a", "a")])

    def test_of_several_with_as_few_nodes_the_first(self):
        self.gives([read(*chunks(a="", c="a", b="a"), *chunks(a="bc")), circle()], [texts("a", "c", "a")])
        self.gives([read(*chunks(a="", p="", q="", r="q", s="p"), *chunks(a="sr", p="a", q="a")), circle()],
                   [texts("a", "r", "q", "a")])

    def test_the_first_place_at_which_they_differ_counts(self):
        lines = [*chunks(a="", b="", c="", d="", e=""), *chunks(a="bc", b="e", c="d", d="a", e="a")]
        self.gives([read(*lines), circle()], [texts("a", "b", "e", "a")])

    def test_a_node_that_leads_to_a_circle_but_is_on_none(self):
        self.gives([read(*chunks(a="b", b="c", c="b")), circle()], [texts("b", "c", "b")])
        self.gives([read("@file f", "@{a}", "@end", *chunks(a="b", b="c", c="d", d="c")), circle()], [texts("c", "d", "c")])

    def test_a_circle_that_leads_away_from_the_first_nodes(self):
        self.gives([read(*chunks(a="", b="a", c="bd", d="ca")), circle()], [texts("c", "d", "c")])

    def test_needs_at_all_count(self):
        document = read("@chunk a", "@if p", "@else", "@if p", "@{a}", "@fi", "@fi", "@end")
        self.gives([document, circle()], [texts("a", "a")])

    def test_over_several_parts(self):
        document = read(*chunks(a="b", b="c", c=""), *chunks(c="a"))
        self.gives([document, circle()], [texts("a", "b", "c", "a")])

    def test_a_wrong_use_leads_round_too(self):
        self.gives([read("@chunk a(x)", "@{a}", "@end"), circle()], [texts("a", "a")])

    def test_names_of_several_words(self):
        self.gives([read("@chunk one two", "@{3-4}", "@end", "@chunk 3-4", "@{one two}", "@end"), circle()],
                   [texts("one two", "3-4", "one two")])

    def test_round_through_all_parts(self):
        lines = []
        for number in range(60):
            lines += ["@chunk c%d" % number, "@{c%d}" % ((number + 1) % 60), "@end"]
        names = ["c%d" % number for number in range(60)]
        self.gives([read(*lines), circle()], [texts(*names, "c0")])


class Documents(CallsTest):
    def test_a_read_with_a_fault_changes_nothing(self):
        self.gives([read(*chunks(a="a")), read("@chunk a"), circle()], [texts("a", "a")])

    def test_a_new_document(self):
        self.gives([read(*chunks(a="a")), read(*chunks(b="c", c="")), circle(), nodes()],
                   [[0], node_rows((0, "b", 1, 0), (0, "c", 1, 0))])
