"""way: the least way from one node to another."""

from tests.support import CallsTest, chunks, read, run, texts, way


class Ways(CallsTest):
    def test_one_step(self):
        self.gives([read("@file f", "@{a}", "@end", *chunks(a="")), way(1, "f", "a")], [texts("f", "a")])

    def test_as_few_nodes_as_any(self):
        self.gives([read(*chunks(a="be", b="c", c="d", d="z", e="z", z="")), way(0, "a", "z")], [texts("a", "e", "z")])

    def test_the_first_of_several_by_the_order_of_the_nodes(self):
        self.gives([read(*chunks(a="", c="", b="", z="")), way(0, "a", "z")], [[-4]])
        lines = chunks(z="", c="z", b="z", a="bc")
        self.gives([read(*lines), way(0, "a", "z")], [texts("a", "c", "z")])
        self.gives([read(*chunks(z="", b="z", c="z", a="cb")), way(0, "a", "z")], [texts("a", "b", "z")])

    def test_the_first_place_at_which_they_differ_counts(self):
        # By the nodes' order (z, p, q, r, s, a) the ways are a q p z and a r s z and a r p z, and a p leads nowhere.
        lines = chunks(z="", p="z", q="p", r="sp", s="z", a="rq")
        self.gives([read(*lines), way(0, "a", "z")], [texts("a", "q", "p", "z")])
        lines = chunks(z="", s="z", p="z", r="ps", q="pp", a="rq")
        self.gives([read(*lines), way(0, "a", "z")], [texts("a", "r", "s", "z")])

    def test_an_early_node_on_a_longer_way_does_not_count(self):
        lines = chunks(b="c", c="z", z="", y="z", a="by")
        self.gives([read(*lines), way(0, "a", "z")], [texts("a", "y", "z")])

    def test_from_a_node_to_itself(self):
        lines = chunks(a="b", b="ca", c="a", d="d", e="f", f="")
        self.gives([read(*lines), way(0, "a", "a"), way(0, "c", "c"), way(0, "d", "d"), way(0, "e", "e"), way(0, "f", "f")],
                   [texts("a", "b", "a"), texts("c", "a", "b", "c"), texts("d", "d"), [-4], [-4]])

    def test_a_node_that_needs_itself_has_the_shortest_circle(self):
        self.gives([read(*chunks(b="a", a="ba")), way(0, "a", "a")], [texts("a", "a")])

    def test_the_first_of_several_circles(self):
        self.gives([read(*chunks(c="a", b="a", a="bc")), way(0, "a", "a")], [texts("a", "c", "a")])

    def test_needs_at_all_count(self):
        self.gives([read("@file f", "@if p", "@else", "@if p", "@{a}", "@fi", "@fi", "@end", *chunks(a="")), way(1, "f", "a")],
                   [texts("f", "a")])

    def test_no_way(self):
        lines = ["@file f", "@{a}", "@end", *chunks(a="b", b="", c="a")]
        self.gives([read(*lines), way(1, "f", "c"), way(0, "b", "a"), way(0, "a", "c"), way(1, "f", "b"), way(0, "c", "b")],
                   [[-4], [-4], [-4], texts("f", "a", "b"), texts("c", "a", "b")])

    def test_not_backwards(self):
        self.gives([read(*chunks(a="b", b="")), way(0, "b", "a")], [[-4]])

    def test_a_file_and_a_chunk_of_one_name(self):
        lines = ["@file a", "@{b}", "@end", *chunks(b="a", a="")]
        self.gives([read(*lines), way(1, "a", "a"), way(0, "a", "a")], [texts("a", "b", "a"), [-4]])

    def test_over_an_unknown_name_there_is_no_way(self):
        self.gives([read(*chunks(a="x", b="")), way(0, "a", "b"), way(0, "a", "x")], [[-4], [-3]])

    def test_a_way_through_all_parts(self):
        lines = []
        for number in range(60):
            lines += ["@chunk c%d" % number, "@{c%d}" % ((number + 1) % 60), "@end"]
        names = ["c%d" % number for number in range(60)]
        self.gives([read(*lines), way(0, "c0", "c59"), way(0, "c0", "c0")], [texts(*names), texts(*names, "c0")])


class Refusals(CallsTest):
    lines = ["@file f", "@{a}", "@end", *chunks(a="", b="")]

    def test_each(self):
        self.gives([read(*self.lines), way(2, "f", "a"), way(-1, "a", "a"), way(0, "f", "a"), way(1, "a", "a"), way(1, "f", "f"),
                    way(1, "f", ""), way(1, "f", "nothing"), way(1, "f", "b")],
                   [[-2], [-2], [-3], [-3], [-3], [-3], [-3], [-4]])

    def test_the_order_of_several(self):
        self.gives([read(*self.lines), way(2, "nothing", "nothing"), way(0, "nothing", "a"), way(0, "b", "nothing"), way(0, "b", "a")],
                   [[-2], [-3], [-3], [-4]])

    def test_without_a_document(self):
        self.assertEqual(run(way(1, "f", "a"), way(3, "", ""), way(0, "", "")), [[-3], [-2], [-3]])
