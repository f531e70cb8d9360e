"""The example of the document, as far as the calls go."""

from tests.support import CallsTest, needs, node_rows, nodes, reach, read, size, texts, unknown, users, marked, way, wrong

EXAMPLE = read("@file main", "@{greet(you)}", "@if loud", "@{shout}", "@else", "@{nowhere}", "@fi", "@end",
               "@chunk greet(x)", "Hello, @<x>!", "@end",
               "@chunk shout", "@if loud", "@{greet}@{greet(A)}@{greet(B)}", "@else", "quiet", "@fi", "@end",
               "@chunk lonely", "@{lonely}", "@end")


class Example(CallsTest):
    def test_it_has_no_fault(self):
        self.gives([EXAMPLE], [[0, 4]])

    def test_nodes(self):
        self.gives([EXAMPLE, nodes()],
                   [node_rows((1, "main", 1, 0), (0, "greet", 1, 1), (0, "shout", 1, 0), (0, "lonely", 1, 0))])

    def test_unknown_and_wrong(self):
        self.gives([EXAMPLE, unknown(), wrong()], [[1, 0, 4, 0], [1, 2, 1, 0]])

    def test_needs_and_users(self):
        self.gives([EXAMPLE, needs(1, "main"), users("greet"), users("lonely")],
                   [texts("greet", "shout"), marked((1, "main"), (0, "shout")), marked((0, "lonely"))])

    def test_reach(self):
        self.gives([EXAMPLE, reach(1, "main", ""), reach(1, "main", "loud")], [texts("greet"), texts("greet", "shout")])

    def test_way(self):
        self.gives([EXAMPLE, way(1, "main", "greet"), way(0, "lonely", "lonely"), way(0, "greet", "shout")],
                   [texts("main", "greet"), texts("lonely", "lonely"), [-4]])

    def test_size(self):
        self.gives([EXAMPLE, size()], [[4, 7, 1, 7]])
