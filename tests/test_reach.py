"""reach: what a node reaches under a variant."""

from tests.support import CallsTest, reach, read, run, texts

BRANCHES = read("@file f", "@{always}", "@if p", "@{on}", "@if q", "@{both}", "@else", "@{pnotq}", "@fi", "@{onagain}",
                "@else", "@{off}", "@if q", "@{qnotp}", "@fi", "@fi", "@{after}", "@end",
                "@chunk always", "@end", "@chunk on", "@end", "@chunk both", "@end", "@chunk pnotq", "@end",
                "@chunk onagain", "@end", "@chunk off", "@end", "@chunk qnotp", "@end", "@chunk after", "@end")

CHAIN = read("@file f", "@{a}", "@end",
             "@chunk a", "@if p", "@{b}", "@fi", "@end",
             "@chunk b", "@if q", "@else", "@{c}", "@fi", "@end",
             "@chunk c", "@{a}@{nowhere}", "@end",
             "@chunk lonely", "@end")


class Variants(CallsTest):
    def under(self, variant, *names):
        self.gives([BRANCHES, reach(1, "f", variant)], [texts(*names)])

    def test_no_setting(self):
        self.under("", "always", "off", "after")

    def test_before_and_behind_the_else(self):
        self.under("p", "always", "on", "pnotq", "onagain", "after")
        self.under("q", "always", "off", "qnotp", "after")

    def test_conditions_within_conditions(self):
        self.under("p q", "always", "on", "both", "onagain", "after")
        self.under("q p", "always", "on", "both", "onagain", "after")

    def test_settings_that_the_document_does_not_have(self):
        self.under("zzz", "always", "off", "after")
        self.under("a1 p z12345678901", "always", "on", "pnotq", "onagain", "after")
        self.under("pp", "always", "off", "after")

    def test_the_same_name_twice(self):
        self.under("p p", "always", "on", "pnotq", "onagain", "after")
        self.under("q p q", "always", "on", "both", "onagain", "after")

    def test_a_long_variant(self):
        self.under(" ".join(["q"] * 10000 + ["p"]), "always", "on", "both", "onagain", "after")

    def test_a_setting_that_is_to_be_on_and_off(self):
        document = read("@file f", "@if p", "@if p", "@{a}", "@else", "@{b}", "@fi", "@fi", "@end",
                        "@chunk a", "@end", "@chunk b", "@end")
        self.gives([document, reach(1, "f", "p"), reach(1, "f", "")], [texts("a"), texts()])

    def test_six_conditions_deep(self):
        ifs = ["@if c%d" % number for number in range(6)]
        document = read("@file f", *ifs, "@{a}", "@else", "@{b}", *["@fi"] * 6, "@end", "@chunk a", "@end",
                        "@chunk b", "@end")
        self.gives([document, reach(1, "f", "c0 c1 c2 c3 c4 c5"), reach(1, "f", "c0 c1 c2 c3 c4"), reach(1, "f", "c0 c1 c2 c3")],
                   [texts("a"), texts("b"), texts()])

    def test_a_condition_ends_with_its_part(self):
        document = read("@file f", "@if p", "@{a}", "@fi", "@end", "@file f", "@{b}", "@end", "@chunk a", "@end",
                        "@chunk b", "@end")
        self.gives([document, reach(1, "f", ""), reach(1, "f", "p")], [texts("b"), texts("a", "b")])


class Reaching(CallsTest):
    def test_over_several_steps(self):
        self.gives([CHAIN, reach(1, "f", ""), reach(1, "f", "p"), reach(1, "f", "p q"), reach(1, "f", "q")],
                   [texts("a"), texts("a", "b", "c"), texts("a", "b"), texts("a")])

    def test_a_chunk_reaches_itself(self):
        self.gives([CHAIN, reach(0, "lonely", ""), reach(0, "b", ""), reach(0, "c", ""), reach(0, "b", "q")],
                   [texts("lonely"), texts("a", "b", "c"), texts("a", "c"), texts("b")])

    def test_on_a_circle(self):
        self.gives([CHAIN, reach(0, "c", "p"), reach(0, "b", "p")], [texts("a", "b", "c"), texts("a", "b", "c")])

    def test_a_file_reaches_no_file(self):
        self.gives([read("@file a", "@{a}", "@end", "@file b", "@end", "@chunk a", "@end"), reach(1, "a", ""), reach(1, "b", "")],
                   [texts("a"), texts()])

    def test_in_the_order_of_the_nodes(self):
        self.gives([read("@chunk z", "@end", "@chunk y", "@{z}", "@end", "@chunk x", "@{y}", "@end"), reach(0, "x", "")],
                   [texts("z", "y", "x")])

    def test_literals_and_parameters_reach_nothing(self):
        self.gives([read("@chunk a(b)", "c", "@<b>", "@end", "@chunk b", "@end", "@chunk c", "@end"), reach(0, "a", "b c")],
                   [texts("a")])

    def test_a_wrong_use_reaches_too(self):
        self.gives([read("@file f", "@{a}", "@end", "@chunk a(x)", "@end"), reach(1, "f", "")], [texts("a")])

    def test_several_parts_each_with_conditions(self):
        document = read("@chunk a", "@if p", "@{b}", "@fi", "@end", "@chunk a", "@if q", "@{c}", "@fi", "@end",
                        "@chunk b", "@end", "@chunk c", "@end")
        self.gives([document, reach(0, "a", "q"), reach(0, "a", "p"), reach(0, "a", "")],
                   [texts("a", "c"), texts("a", "b"), texts("a")])

    def test_a_chain_through_all_parts(self):
        lines = []
        for number in range(60):
            lines += ["@chunk c%d" % number, "@{c%d}" % (number + 1), "@end"]
        self.gives([read(*lines), reach(0, "c0", ""), reach(0, "c58", "")],
                   [texts(*["c%d" % number for number in range(60)]), texts("c58", "c59")])


class Refusals(CallsTest):
    def test_no_variants(self):
        for variant in [" ", " p", "p ", "p  q", "P", "1", "p,q", "p, q", "p-q", "p_", "p\n", "p\tq", "1p", "abcdefghijklm",
                        "p abcdefghijklm", [0], [112, 255], "@", "p Q", " " * 24000, [112, 32] * 10000]:
            self.gives([CHAIN, reach(1, "f", variant)], [[-1]])

    def test_the_longest_short_name(self):
        self.gives([CHAIN, reach(1, "f", "abcdefghijkl"), reach(1, "f", "abcdefghijkl p")], [texts("a"), texts("a", "b", "c")])

    def test_no_nodes(self):
        self.gives([CHAIN, reach(2, "f", ""), reach(-1, "f", ""), reach(0, "f", ""), reach(1, "a", ""), reach(0, "nowhere", ""),
                    reach(0, "", ""), reach(1, "", "p")],
                   [[-2], [-2], [-3], [-3], [-3], [-3], [-3]])

    def test_the_order_of_several(self):
        self.gives([CHAIN, reach(2, "nothing", "P"), reach(1, "nothing", "P"), reach(1, "f", "P")], [[-2], [-3], [-1]])

    def test_without_a_document(self):
        self.assertEqual(run(reach(1, "f", ""), reach(5, "", " "), reach(0, "", " ")), [[-3], [-2], [-3]])
