"""How calls stand in their one list, and answers in theirs."""

import unittest

from chunkgraph.documents import answers
from tests.support import (
    circle, copies, dead, depth, live, marked, needs, node_rows, nodes, order, reach, read, read_text, run, size, taken_apart,
    texts, unknown, unused, users, way, wrong)

DOCUMENT = read("@file f", "@{a}", "@end", "@chunk a(x)", "@if p", "@{b}@<x>", "@fi", "@end", "@chunk b", "@end")

GOOD = [DOCUMENT, nodes(), unknown(), wrong(), needs(1, "f"), users("a"), reach(1, "f", "p"), way(1, "f", "b"), circle(), order(),
        copies(1, "f", "b", "p"), depth(1, "f"), live(1, 1, ""), dead(), unused(), size()]

GOOD_ANSWERS = [[0, 3], node_rows((1, "f", 1, 0), (0, "a", 1, 1), (0, "b", 1, 0)), [0], [1, 0, 0, 0], texts("a"), marked((1, "f")),
                texts("a", "b"), texts("f", "a", "b"), [0], marked((0, "b"), (0, "a"), (1, "f")) + [0], [1], [2], [0], [0], [0],
                [3, 2, 1, 2]]

REFUSED = [read_text("\n" * 20001), needs(7, "f"), users("no"), reach(0, "a", " "), way(0, "b", "a"), copies(1, "f", "f", "p"),
           depth(0, "f"), live(1, 2, "")]

REFUSALS = [[-6], [-2], [-3], [-1], [-4], [-4], [-3], [-5]]

MANY = GOOD + REFUSED[1:] + [read("@"), nodes()]


def joined(calls):
    return [number for call in calls for number in call]


class Lists(unittest.TestCase):
    def test_the_numbers_as_they_stand(self):
        self.assertEqual(answers([0, 0]), [2, 0, 0])
        self.assertEqual(answers([1]), [1, 0])
        self.assertEqual(answers([15]), [4, 0, 0, 0, 0])
        self.assertEqual(answers([5, 1, 97]), [1, -3])
        self.assertEqual(answers([0, 2, 64, 10, 1]), [2, 1, 2, 1, 0])
        self.assertEqual(answers([0, 14, 64, 99, 104, 117, 110, 107, 32, 97, 10, 64, 101, 110, 100, 10, 1, 6, 0, 1, 97, 0]),
                         [2, 0, 1, 6, 1, 0, 1, 97, 1, 0, 3, 1, 1, 97])

    def test_a_call_behind_a_row(self):
        text = list(b"@chunk a\n@{a}\n@end\n")
        calls = [0, len(text)] + text + [7, 0, 1, 97, 1, 97, 6, 0, 1, 97, 0, 4, 2, 0, 15]
        self.assertEqual(answers(calls), [2, 0, 1, 5, 2, 1, 97, 1, 97, 3, 1, 1, 97, 1, -2, 4, 1, 1, 0, 1])

    def test_the_numbers_of_calls_8_to_14(self):
        self.assertEqual(answers([8, 9, 13, 14]), [1, 0, 2, 0, 0, 1, 0, 1, 0])
        self.assertEqual(answers([10, 1, 1, 102, 1, 97, 1, 112, 11, 2, 1, 97, 12, -1, 0, 0, 12, 0, -1, 1, 112]),
                         [1, -3, 1, -2, 1, -2, 1, -2])
        text = list(b"@chunk a\n@{b}@{b}\n@end\n@chunk b\n@end\n")
        calls = [0, len(text)] + text + [10, 0, 1, 97, 1, 98, 0, 11, 0, 1, 97, 12, 0, 0, 1, 112, 13, 14, 9, 8]
        self.assertEqual(answers(calls), [2, 0, 2, 1, 2, 1, 1, 1, 1, 3, 1, 0, 0, 5, 2, 1, 97, 1, 98,
                                          8, 2, 0, 1, 98, 0, 1, 97, 0, 1, 0])

    def test_all_sixteen_kinds(self):
        self.assertEqual([call[0] for call in GOOD], list(range(16)))
        self.assertEqual(run(*GOOD), GOOD_ANSWERS)

    def test_in_whatever_order(self):
        for step in (3, 5, 7, 11):
            places = [0] + [number * step % 16 for number in range(1, 16)]
            self.assertEqual(run(*[GOOD[place] for place in places]), [GOOD_ANSWERS[place] for place in places])

    def test_40_calls_and_refusals_among_them(self):
        calls = GOOD + REFUSED + GOOD
        self.assertEqual(len(calls), 40)
        self.assertEqual(run(*calls), GOOD_ANSWERS + REFUSALS + GOOD_ANSWERS)

    def test_40_times_the_same_call(self):
        for call, answer in zip(GOOD[1:], GOOD_ANSWERS[1:]):
            self.assertEqual(run(DOCUMENT, *[call] * 39), [[0, 3]] + [answer] * 39)

    def test_40_reads(self):
        calls = [read_text("x\n" * number) for number in range(39)] + [read_text("x")]
        self.assertEqual(run(*calls), [[0, number] for number in range(39)] + [[1, 1]])

    def test_each_refused_call_leaves_everything_as_it_was(self):
        for refused in REFUSED + [read("@"), read("@chunk a"), copies(1, "f", "b", " "), copies(3, "f", "b", ""), depth(3, "f"),
                                  live(3, 0, ""), live(1, 9, ""), live(1, 1, "P")]:
            self.assertEqual(run(DOCUMENT, refused, *GOOD[1:])[2:], GOOD_ANSWERS[1:])

    def test_documents_that_refuse_what_hangs_on_them(self):
        round_there = read("@chunk a", "@{a}", "@end")
        many_settings = read("@chunk a", *["@if s%d\n@fi" % number for number in range(9)], "@end")
        self.assertEqual(run(round_there, copies(0, "a", "a", ""), depth(0, "a"), many_settings, dead(), unused(), depth(0, "a")),
                         [[0, 1], [-9], [-9], [0, 1], [-7], [-7], [0]])

    def test_asking_changes_nothing(self):
        self.assertEqual(run(*GOOD, *GOOD[1:])[16:], run(*GOOD)[1:])

    def test_the_longest_rows(self):
        for call in [read_text("x" * 24000), needs(0, "x" * 24000), users("x" * 24000), reach(1, "x" * 24000, ""),
                     way(1, "", "x" * 24000), copies(1, "", "x" * 24000), copies(1, "", "", "x" * 24000), depth(0, "x" * 24000),
                     live(0, 0, "x " * 12000)]:
            self.assertEqual(len(run(call)[0]), 1)


class Handing(unittest.TestCase):
    def test_the_list_is_the_same_afterwards(self):
        calls = joined(MANY)
        kept = list(calls)
        answers(calls)
        self.assertEqual(calls, kept)

    def test_the_list_is_the_same_all_the_while(self):
        class Watched(list):
            def refuse(self, *arguments):
                raise AssertionError("the list was changed")
            append = extend = insert = pop = remove = clear = sort = reverse = refuse
            __setitem__ = __delitem__ = __iadd__ = __imul__ = refuse

        self.assertEqual(answers(Watched(joined(MANY))), answers(joined(MANY)))

    def test_twice_the_same_list(self):
        calls = joined(MANY)
        first = answers(calls)
        self.assertEqual(answers(calls), first)

    def test_nothing_is_kept_from_one_list_to_the_next(self):
        answers(joined(MANY))
        self.assertEqual(run(*GOOD[1:]),
                         [[0], [0], [0], [-3], [-3], [-3], [-3], [0], [0, 0], [-3], [-3], [-2], [0], [0], [0, 0, 0, 0]])

    def test_the_answers_are_a_new_list_of_whole_numbers(self):
        calls = joined(MANY)
        first = answers(calls)
        self.assertTrue(all(type(number) is int for number in first))
        self.assertIs(type(first), list)
        first.append(0)
        self.assertEqual(answers(calls), first[:-1])

    def test_answers_of_a_count_are_cut_where_it_says(self):
        self.assertEqual(len(taken_apart(answers(joined(MANY)))), len(MANY))
