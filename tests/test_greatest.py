"""The greatest documents that there may be, at each of the calls, several calls in one list."""

from tests.support import (
    CallsTest, circle, copies, dead, depth, live, marked, needs, node_rows, nodes, order, reach, read, run, size, texts, unknown,
    unused, users, way, wrong)

NAMES = [letter + digit for letter in "abcdef" for digit in "0123456789"][:59]
ALL_ON = "s0 s1 s2 s3 s4 s5 s6 s7"


def document(part_lines):
    """One file and 59 chunks with lines that part_lines tells by their numbers; 200 blocks and 400 lines in all."""
    parts = [part_lines(number) for number in range(59)]
    file_lines = 400 - sum(len(lines) for lines in parts)
    told = ["@file f", "@{a0}", *["t"] * (file_lines - 1), "@end"]
    for name, lines in zip(NAMES, parts):
        told += ["@chunk " + name, *lines, "@end"]
    return [*told, *[""] * 140]


def chain_lines(number):
    """Two uses of the next chunk if a setting is on, else one."""
    use = "@{" + [*NAMES, "none"][number + 1] + "}"
    return ["@if s%d" % (number % 8), use * 2, "@else", use, "@fi", "t"]


def knot_lines(number):
    """Uses of every chunk if a setting is on."""
    uses = ["@{" + name + "}" for name in NAMES]
    return ["@if s%d" % (number % 8), "".join(uses[:30]), "".join(uses[30:]), "@fi"]


def staircase_lines(number):
    """Uses of every chunk behind this one."""
    uses = ["@{" + name + "}" for name in NAMES[number + 1:]]
    return ["".join(uses[:30]), "".join(uses[30:])]


class Greatest(CallsTest):
    def answers_to(self, lines, pairs):
        """Each call, ten times in one list, is answered so."""
        self.assertLessEqual(len("\n".join(lines)), 19999)
        self.assertEqual(run(read(*lines)), [[0, 200]])
        for start in range(0, len(pairs), 3):
            some = pairs[start:start + 3] * 10
            self.assertEqual(run(read(*lines), *[call for call, answer in some]), [[0, 200]] + [answer for call, answer in some])

    def test_nothing_more_fits_in(self):
        lines = document(chain_lines)
        self.assertEqual(run(read(*lines, "")), [[len(lines) + 1, 6]])
        self.assertEqual(run(read("@chunk a", "@end", *lines[:-2])), [[len(lines) - 145, 6]])
        self.assertEqual(run(read("@file f", "t", *lines[1:])), [[len(lines) - 140, 6]])

    def test_a_chain(self):
        lines = document(chain_lines)
        every = node_rows((1, "f", 1, 0), *[(0, name, 1, 0) for name in NAMES])
        back = marked(*[(0, name) for name in reversed(NAMES)], (1, "f")) + [0]
        self.answers_to(lines, [
            (nodes(), every), (unknown(), [3, 59, 1, 0, 59, 1, 1, 59, 3, 0]), (wrong(), [0]),
            (needs(0, "a0"), texts("a1")), (users("f8"), marked((0, "f7"))), (reach(1, "f", "s3"), texts(*NAMES)),
            (way(1, "f", "f8"), texts("f", *NAMES)), (circle(), [0]), (order(), back),
            (copies(1, "f", "f8", ALL_ON), [2 ** 58]), (copies(1, "f", "f8", "s0"), [2 ** 8]), (depth(1, "f"), [59]),
            (live(59, 3, "s1"), [1]), (live(59, 3, "s2"), [0]), (live(60, 0, ""), [-4]),
            (dead(), [0]), (unused(), [0]), (size(), [60, 178, 8, 223])])

    def test_a_knot(self):
        lines = document(knot_lines)
        self.answers_to(lines, [
            (unknown(), [0]), (wrong(), [0]), (needs(0, "f8"), texts(*NAMES)),
            (users("d0"), marked(*[(0, name) for name in NAMES])), (reach(1, "f", "s1"), texts("a0")),
            (reach(1, "f", "s0"), texts(*NAMES)),
            (way(1, "f", "f8"), texts("f", "a0", "f8")), (circle(), texts("a0", "a0")), (order(), [0, 60]),
            (copies(1, "f", "f8", ""), [-9]), (depth(0, "a0"), [-9]), (live(59, 2, "s2"), [1]),
            (dead(), [0]), (unused(), [0]), (size(), [60, 59 * 59 + 1, 8, 400 - 2 * 59])])

    def test_a_staircase(self):
        # How often f8 is put in doubles from chunk to chunk.
        lines = document(staircase_lines)
        self.answers_to(lines, [
            (needs(0, "a1"), texts(*NAMES[2:])), (users("a2"), marked((0, "a0"), (0, "a1"))),
            (reach(0, "f0", ""), texts(*NAMES[50:])),
            (way(1, "f", "f8"), texts("f", "a0", "f8")), (circle(), [0]), (depth(1, "f"), [59]),
            (copies(1, "f", "f8", ""), [2 ** 57]), (copies(0, "f0", "f8", ""), [2 ** 7]), (order(), marked(
                *[(0, name) for name in reversed(NAMES)], (1, "f")) + [0]),
            (dead(), [0]), (unused(), [0]), (size(), [60, 59 * 29 + 1, 0, 400])])

    def test_a_chain_that_no_file_reaches(self):
        lines = ["t" if line == "@{a0}" else line for line in document(chain_lines)]
        lines_dead = [place for block in range(1, 60) for line in (1, 3, 5) for place in (block, line)]
        self.answers_to(lines, [(dead(), [177] + lines_dead), (unused(), texts(*NAMES)), (copies(1, "f", "f8", ""), [0])])

    def test_a_chain_with_a_ninth_setting(self):
        lines = ["@if s8" if place == 5 else "@fi" if place == 6 else line for place, line in enumerate(document(chain_lines))]
        self.answers_to(lines, [(dead(), [-7]), (unused(), [-7]), (size(), [60, 178, 9, 221])])

    def test_all_lines_under_six_conditions(self):
        lines = ["@file f", *["@if s%d" % number for number in range(6)], *["@{a0}"] * 386, *["@fi"] * 6, "@{a0}", "@{a1}", "@end"]
        lines += [line for name in NAMES for line in ("@chunk " + name, "@end")] + [""] * 140
        self.answers_to(lines, [
            (copies(1, "f", "a0", "s0 s1 s2 s3 s4 s5"), [387]), (copies(1, "f", "a0", "s0 s1 s2 s3 s4"), [1]), (dead(), [0]),
            (live(0, 6, "s5 s4 s3 s2 s1 s0"), [1]), (live(0, 391, "s0 s1 s2 s3 s5"), [0]), (live(0, 392, ""), [-5]),
            (live(0, 399, ""), [1]), (live(0, 400, ""), [-2]), (unused(), texts(*NAMES[2:]))])
