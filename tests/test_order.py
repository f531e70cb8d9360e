"""order and depth: what comes behind what it needs, and how long the longest way is."""

from tests.support import CallsTest, chunks, depth, marked, order, read, run


def taken(left, *names):
    """How order answers if these are taken: a file's name has a / before it here."""
    pairs = [(1, name[1:]) if name.startswith("/") else (0, name) for name in names]
    return marked(*pairs) + [left]


class Order(CallsTest):
    def takes(self, lines, left, *names):
        self.gives([read(*lines), order()], [taken(left, *names)])

    def test_without_a_document(self):
        self.assertEqual(run(order()), [[0, 0]])

    def test_prose_alone(self):
        self.takes(["words"], 0)

    def test_nodes_that_need_nothing_are_taken_in_their_order(self):
        self.takes(["@chunk c", "@end", "@file f", "@end", "@chunk a", "@end", "@file e", "@end"], 0, "/f", "/e", "c", "a")

    def test_a_node_comes_behind_what_it_needs(self):
        self.takes(["@file f", "@{a}", "@end", *chunks(a="b", b="c", c="")], 0, "c", "b", "a", "/f")

    def test_a_node_is_taken_as_soon_as_its_needs_are(self):
        self.takes(chunks(a="c", b="", c="", d="", e=""), 0, "c", "a", "b", "d", "e")
        self.takes(["@file f", "@{d}", "@end", *chunks(a="", b="", c="", d="")], 0, "d", "/f", "a", "b", "c")

    def test_ahead_of_nodes_that_stand_behind_it_and_are_free_already(self):
        # The nodes stand as a b c d e; a waits for all of d's way, and is still ahead of e.
        self.takes([*chunks(a="", b="", c="", d="", e=""), *chunks(a="d", c="a", d="b")], 0, "b", "d", "a", "c", "e")

    def test_a_file_waits_for_one_chunk_and_comes_ahead_of_the_others(self):
        self.takes(["@file f", "@{x}", "@end", "@file g", "@{y}", "@end", "@file h", "@end", *chunks(x="", y="x", z="")], 0,
                   "/h", "x", "/f", "y", "/g", "z")

    def test_a_file_and_a_chunk_of_one_name(self):
        self.takes(["@file a", "@{a}", "@end", *chunks(a="")], 0, "a", "/a")

    def test_several_needs(self):
        self.takes(chunks(a="bc", b="d", c="d", d=""), 0, "d", "b", "c", "a")

    def test_a_chunk_that_needs_itself_is_left(self):
        self.takes(chunks(a="a", b=""), 1, "b")

    def test_nodes_on_a_circle_are_left(self):
        self.takes(chunks(a="b", b="c", c="a", d=""), 3, "d")

    def test_nodes_that_need_a_circle_are_left(self):
        self.takes(["@file f", "@{a}", "@end", "@file g", "@{d}", "@end", *chunks(a="b", b="c", c="b", d="")], 4, "d", "/g")

    def test_what_a_circle_needs_is_taken(self):
        self.takes(chunks(a="ab", b="c", c=""), 1, "c", "b")

    def test_all_are_left(self):
        self.takes(chunks(a="b", b="a"), 2)

    def test_unknown_uses_hold_nothing_up(self):
        self.takes(["@file f", "@{nowhere}@{f}", "@end", *chunks(a="xbx", b="y")], 0, "/f", "b", "a")

    def test_wrong_uses_hold_up(self):
        self.takes(["@chunk a", "@{b(x)}", "@end", "@chunk b", "@end"], 0, "b", "a")

    def test_needs_at_all_count(self):
        self.takes(["@chunk a", "@if p", "@else", "@if p", "@{b}", "@fi", "@fi", "@end", *chunks(b="")], 0, "b", "a")

    def test_needs_of_all_parts_count(self):
        self.takes([*chunks(a="", b=""), *chunks(a="b")], 0, "b", "a")

    def test_a_chain_through_all_parts(self):
        lines = []
        for number in range(60):
            lines += ["@chunk c%d" % number, "@{c%d}" % (number + 1), "@end"]
        self.takes(lines, 0, *["c%d" % number for number in reversed(range(60))])

    def test_a_read_with_a_fault_changes_nothing(self):
        self.gives([read(*chunks(a="b", b="")), read("@"), order()], [taken(0, "b", "a")])

    def test_only_the_last_document_counts(self):
        self.gives([read(*chunks(a="b", b="")), read("words"), order()], [[0, 0]])


class Depth(CallsTest):
    def test_a_node_that_needs_nothing(self):
        self.gives([read("@file f", "@end", *chunks(a="")), depth(1, "f"), depth(0, "a")], [[0], [0]])

    def test_unknown_uses_are_no_ways(self):
        self.gives([read("@file f", "@{x}", "@end"), depth(1, "f")], [[0]])

    def test_along_a_chain(self):
        lines = ["@file f", "@{a}", "@end", *chunks(a="b", b="c", c="")]
        self.gives([read(*lines), depth(1, "f"), depth(0, "a"), depth(0, "b"), depth(0, "c")], [[3], [2], [1], [0]])

    def test_a_longest_way_that_is_not_the_least(self):
        lines = chunks(a="eb", b="ec", c="de", d="e", e="")
        self.gives([read(*lines), depth(0, "a"), depth(0, "b"), depth(0, "e")], [[4], [3], [0]])
        self.gives([read(*chunks(a="bcd", b="", c="", d="e", e="")), depth(0, "a")], [[2]])
        self.gives([read(*chunks(a="bd", b="c", c="", d="")), depth(0, "a")], [[2]])

    def test_many_uses_of_one_chunk_are_one_step(self):
        self.gives([read(*chunks(a="bbb", b=""), *chunks(a="bb")), depth(0, "a")], [[1]])

    def test_needs_at_all_count(self):
        lines = ["@file f", "@if p", "@else", "@if p", "@{a}", "@fi", "@fi", "@end", *chunks(a="")]
        self.gives([read(*lines), depth(1, "f")], [[1]])

    def test_a_file_and_a_chunk_of_one_name(self):
        self.gives([read("@file a", "@{b}", "@end", *chunks(b="a", a="")), depth(1, "a"), depth(0, "a")], [[2], [0]])

    def test_a_chain_through_all_parts(self):
        lines = []
        for number in range(60):
            lines += ["@chunk c%d" % number, "@{c%d}" % (number + 1), "@end"]
        self.gives([read(*lines), depth(0, "c0"), depth(0, "c59")], [[59], [0]])

    def test_a_circle_anywhere(self):
        lines = ["@file f", "@{a}", "@end", *chunks(a="", b="b")]
        self.gives([read(*lines), depth(1, "f"), depth(0, "a"), depth(0, "b")], [[-9], [-9], [-9]])

    def test_a_circle_that_is_none_under_any_variant(self):
        self.gives([read("@chunk a", "@if p", "@else", "@if p", "@{a}", "@fi", "@fi", "@end"), depth(0, "a")], [[-9]])

    def test_refusals(self):
        lines = ["@file f", "@{a}@{x}", "@end", *chunks(a="")]
        self.gives([read(*lines), depth(2, "f"), depth(-1, "a"), depth(10 ** 12, "a"), depth(-10 ** 12, ""), depth(0, "f"),
                    depth(1, "a"), depth(0, "x"), depth(0, ""), depth(1, [255] * 300)],
                   [[-2]] * 4 + [[-3]] * 5)

    def test_the_order_of_several(self):
        self.gives([read(*chunks(a="a")), depth(2, "x"), depth(2, "a"), depth(0, "x"), depth(0, "a")], [[-2], [-2], [-3], [-9]])

    def test_without_a_document(self):
        self.assertEqual(run(depth(0, "a"), depth(1, ""), depth(2, "")), [[-3], [-3], [-2]])

    def test_a_read_that_is_refused_or_faulty_changes_nothing(self):
        document = read(*chunks(a="b", b=""))
        self.gives([document, [0, 20001] + [10] * 20001, read("@"), depth(0, "a")], [[-6], [1, 2], [1]])
