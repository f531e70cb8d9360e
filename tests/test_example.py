"""The example of the document, whole."""

from tests.support import (
    CallsTest, circle, copies, dead, depth, live, marked, needs, node_rows, nodes, order, reach, read, size, texts, unknown,
    unused, users, way, wrong)

LINES = ["@file main", "@{greet(you)}", "@if loud", "@{shout}", "@else", "@{nowhere}", "@fi", "@end",
         "@chunk greet(x)", "Hello, @<x>!", "@end",
         "@chunk shout", "@if loud", "@{greet}@{greet(A)}@{greet(B)}", "@else", "quiet", "@fi", "@end",
         "@chunk lonely", "@{lonely}", "@end"]

EXAMPLE = read(*LINES)


class Example(CallsTest):
    def test_it_has_no_fault(self):
        self.gives([EXAMPLE], [[0, 4]])

    def test_nodes(self):
        self.gives([EXAMPLE, nodes()],
                   [node_rows((1, "main", 1, 0), (0, "greet", 1, 1), (0, "shout", 1, 0), (0, "lonely", 1, 0))])

    def test_unknown_and_wrong(self):
        self.gives([EXAMPLE, unknown(), wrong()], [[1, 0, 4, 0], [1, 2, 1, 0]])

    def test_needs_and_users(self):
        self.gives([EXAMPLE, needs(1, "main"), users("greet"), users("lonely")],
                   [texts("greet", "shout"), marked((1, "main"), (0, "shout")), marked((0, "lonely"))])

    def test_reach(self):
        self.gives([EXAMPLE, reach(1, "main", ""), reach(1, "main", "loud")], [texts("greet"), texts("greet", "shout")])

    def test_way(self):
        self.gives([EXAMPLE, way(1, "main", "greet"), way(0, "lonely", "lonely"), way(0, "greet", "shout")],
                   [texts("main", "greet"), texts("lonely", "lonely"), [-4]])

    def test_circle(self):
        self.gives([EXAMPLE, circle()], [texts("lonely", "lonely")])

    def test_order(self):
        self.gives([EXAMPLE, order()], [marked((0, "greet"), (0, "shout"), (1, "main")) + [1]])

    def test_copies_and_depth(self):
        self.gives([EXAMPLE, copies(1, "main", "greet", ""), copies(1, "main", "greet", "loud"), depth(1, "main")], [[-9]] * 3)

    def test_copies_and_depth_without_lonely(self):
        self.gives([read(*LINES[:-3]), copies(1, "main", "greet", ""), copies(1, "main", "greet", "loud"), depth(1, "main")],
                   [[0, 3], [1], [4], [2]])

    def test_live(self):
        self.gives([EXAMPLE, live(0, 0, ""), live(0, 2, "loud"), live(0, 4, "loud"), live(2, 3, ""), live(2, 0, ""), live(4, 0, "")],
                   [[1], [1], [0], [1], [-5], [-2]])

    def test_dead_and_unused(self):
        self.gives([EXAMPLE, dead(), unused()], [[2, 2, 3, 3, 0], texts("lonely")])

    def test_size(self):
        self.gives([EXAMPLE, size()], [[4, 7, 1, 7]])
