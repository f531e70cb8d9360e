"""How calls stand in their one list, and answers in theirs."""

import unittest

from chunkgraph.documents import answers
from tests.support import (
    needs, nodes, reach, read, read_text, run, size, taken_apart, texts, unknown, users, way, wrong)

DOCUMENT = read("@file f", "@{a}", "@end", "@chunk a(x)", "@if p", "@{b}@<x>", "@fi", "@end", "@chunk b", "@end")

MANY = [DOCUMENT, nodes(), unknown(), wrong(), needs(1, "f"), users("a"), reach(1, "f", "p"), way(1, "f", "b"), size(),
        needs(7, "f"), users("no"), reach(0, "a", " "), way(0, "b", "a"), read("@"), nodes()]


def joined(calls):
    return [number for call in calls for number in call]


class Lists(unittest.TestCase):
    def test_the_numbers_as_they_stand(self):
        self.assertEqual(answers([0, 0]), [2, 0, 0])
        self.assertEqual(answers([1]), [1, 0])
        self.assertEqual(answers([15]), [4, 0, 0, 0, 0])
        self.assertEqual(answers([5, 1, 97]), [1, -3])
        self.assertEqual(answers([0, 2, 64, 10, 1]), [2, 1, 2, 1, 0])
        self.assertEqual(answers([0, 14, 64, 99, 104, 117, 110, 107, 32, 97, 10, 64, 101, 110, 100, 10, 1, 6, 0, 1, 97, 0]),
                         [2, 0, 1, 6, 1, 0, 1, 97, 1, 0, 3, 1, 1, 97])

    def test_a_call_behind_a_row(self):
        text = list(b"@chunk a\n@{a}\n@end\n")
        calls = [0, len(text)] + text + [7, 0, 1, 97, 1, 97, 6, 0, 1, 97, 0, 4, 2, 0, 15]
        self.assertEqual(answers(calls), [2, 0, 1, 5, 2, 1, 97, 1, 97, 3, 1, 1, 97, 1, -2, 4, 1, 1, 0, 1])

    def test_several_calls(self):
        self.assertEqual(run(*MANY[:13]), [
            [0, 3], [3, 1, 1, 102, 1, 0, 0, 1, 97, 1, 1, 0, 1, 98, 1, 0], [0], [1, 0, 0, 0], texts("a"), [1, 1, 1, 102],
            texts("a", "b"), texts("f", "a", "b"), [3, 2, 1, 2], [-2], [-3], [-1], [-4]])

    def test_40_calls(self):
        calls = [DOCUMENT] + [size(), nodes(), way(1, "f", "b")] * 13
        given = run(*calls)
        self.assertEqual(len(given), 40)
        self.assertEqual(given, [[0, 3]] + [[3, 2, 1, 2], run(DOCUMENT, nodes())[1], texts("f", "a", "b")] * 13)

    def test_40_reads(self):
        calls = [read_text("x\n" * number) for number in range(39)] + [read_text("x")]
        self.assertEqual(run(*calls), [[0, number] for number in range(39)] + [[1, 1]])

    def test_each_refused_call_leaves_everything_as_it_was(self):
        states = [nodes(), unknown(), wrong(), needs(0, "a"), users("b"), reach(1, "f", ""), way(0, "a", "b"), size()]
        before = run(DOCUMENT, *states)[1:]
        for refused in [read_text("\n" * 20001), read("@"), needs(2, "f"), users(""), reach(1, "f", "-"), way(0, "b", "b")]:
            self.assertEqual(run(DOCUMENT, refused, *states)[2:], before)

    def test_asking_changes_nothing(self):
        self.assertEqual(run(*MANY, *MANY[1:13])[15:], run(*MANY)[1:13])

    def test_the_longest_rows(self):
        for call in [read_text("x" * 24000), needs(0, "x" * 24000), users("x" * 24000), reach(1, "x" * 24000, ""),
                     way(1, "", "x" * 24000)]:
            self.assertEqual(len(run(call)[0]), 1)


class Handing(unittest.TestCase):
    def test_the_list_is_the_same_afterwards(self):
        calls = joined(MANY)
        kept = list(calls)
        answers(calls)
        self.assertEqual(calls, kept)

    def test_the_list_is_the_same_all_the_while(self):
        class Watched(list):
            def refuse(self, *arguments):
                raise AssertionError("the list was changed")
            append = extend = insert = pop = remove = clear = sort = reverse = refuse
            __setitem__ = __delitem__ = __iadd__ = __imul__ = refuse

        self.assertEqual(answers(Watched(joined(MANY))), answers(joined(MANY)))

    def test_twice_the_same_list(self):
        calls = joined(MANY)
        first = answers(calls)
        self.assertEqual(answers(calls), first)

    def test_nothing_is_kept_from_one_list_to_the_next(self):
        answers(joined(MANY))
        self.assertEqual(answers(nodes() + size()), [1, 0, 4, 0, 0, 0, 0])

    def test_the_answers_are_a_new_list_of_whole_numbers(self):
        calls = joined(MANY)
        first = answers(calls)
        self.assertTrue(all(type(number) is int for number in first))
        self.assertIs(type(first), list)
        first.append(0)
        self.assertEqual(answers(calls), first[:-1])

    def test_answers_of_a_count_are_cut_where_it_says(self):
        self.assertEqual(len(taken_apart(answers(joined(MANY)))), len(MANY))
