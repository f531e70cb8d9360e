"""The answers beside those of a slow and plain retelling of the document, on many made-up texts."""

import itertools
import unittest

from tests.retold import Maker, Retold
from tests.support import (
    circle, copies, dead, depth, live, marked, needs, nodes, order, reach, read_text, run, size, texts, unknown, unused, users,
    way, wrong)


def asked(text, calls):
    """The answers to calls about a text, by as many lists of calls as it takes."""
    given = []
    for place in range(0, len(calls), 39):
        given += run(read_text(text), *calls[place:place + 39])[1:]
    return given


class Beside(unittest.TestCase):
    def test_faults(self):
        seen = {}
        for seed in range(3000):
            maker = Maker(seed)
            text = maker.spoilt(maker.text())
            retold = Retold(text)
            self.assertEqual(run(read_text(text)), [retold.fault or [0, len(retold.blocks)]], text)
            reason = retold.fault[1] if retold.fault else 0
            seen[reason] = seen.get(reason, 0) + 1
        self.assertEqual(sorted(seen), [0, 1, 2, 3, 4, 5, 7, 8])

    def test_the_document_as_a_whole(self):
        for seed in range(400):
            text = Maker(seed).text()
            retold = Retold(text)
            self.assertIsNone(retold.fault, text)
            told = []
            for file, name in retold.nodes():
                parts = len([block for number, block in retold.all_parts() if block[:2] == (file, name)])
                told += [file, len(name), *name.encode(), parts, 0 if file else retold.parameter_count(name)]
            uses = retold.uses()
            strange = [use[:3] for use in uses if (0, use[3]) not in retold.nodes()]
            false = [use[:3] for use in uses if use[:3] not in strange and use[4] != retold.parameter_count(use[3])]
            self.assertEqual(run(read_text(text), nodes(), unknown(), wrong(), size())[1:], [
                [len(retold.nodes())] + told,
                [len(strange), *itertools.chain(*strange)],
                [len(false), *itertools.chain(*false)],
                retold.size()], text)

    def test_needs_and_users(self):
        for seed in range(400):
            text = Maker(seed).text()
            retold = Retold(text)
            pairs = retold.needs()
            for file, name in retold.nodes():
                needed = [other[1] for other in retold.nodes() if ((file, name), other) in pairs]
                using = [other for other in retold.nodes() if (other, (0, name)) in pairs]
                given = run(read_text(text), needs(file, name), users(name))
                self.assertEqual(given[1], texts(*needed), text)
                if (0, name) in retold.nodes():
                    flat = [number for other in using for number in [other[0], len(other[1]), *other[1].encode()]]
                    self.assertEqual(given[2], [len(using)] + flat, text)

    def test_reach(self):
        for seed in range(250):
            text = Maker(seed).text()
            retold = Retold(text)
            for file, name in retold.nodes():
                for variant in ["", "p", "q", "r p", "p q", "s r q p"]:
                    self.assertEqual(run(read_text(text), reach(file, name, variant))[1],
                                     texts(*retold.reach((file, name), variant.split())), text)

    def test_way(self):
        found = 0
        for seed in range(150):
            text = Maker(seed).text()
            retold = Retold(text)
            targets = [node for node in retold.nodes() if node[0] == 0]
            for node in retold.nodes():
                for target in targets:
                    expected = retold.way(node, target)
                    found = max(found, len(expected or []))
                    self.assertEqual(run(read_text(text), way(*node, target[1]))[1],
                                     texts(*expected) if expected else [-4], text)
        self.assertGreater(found, 3)

    def test_circle(self):
        found = {}
        for seed in range(400):
            text = Maker(seed).text()
            expected = Retold(text).circle()
            found[len(expected)] = True
            self.assertEqual(run(read_text(text), circle())[1], texts(*expected), text)
        self.assertEqual(sorted(found)[:4], [0, 2, 3, 4])

    def test_order(self):
        for seed in range(400):
            for text in [Maker(seed).text(), Maker(seed, True).text()]:
                retold = Retold(text)
                taken = retold.order()
                self.assertEqual(run(read_text(text), order())[1],
                                 marked(*taken) + [len(retold.nodes()) - len(taken)], text)

    def test_copies_and_depth(self):
        most = 0
        for seed in range(200):
            for text in [Maker(seed).text(), Maker(seed, True).text()]:
                retold = Retold(text)
                round_there = bool(retold.circle())
                calls = []
                expected = []
                for node in retold.nodes():
                    calls.append(depth(*node))
                    expected.append([-9] if round_there else [retold.depth(node)])
                    chunks = [other[1] for other in retold.nodes() if other[0] == 0]
                    for chunk, variant in itertools.product(chunks, ["", "p", "q r", "s r q p"]):
                        calls.append(copies(*node, chunk, variant))
                        expected.append([-9] if round_there else [retold.copies(node, chunk, variant.split())])
                        most = max(most, *expected[-1])
                self.assertEqual(asked(text, calls), expected, text)
        self.assertGreater(most, 10)

    def test_live(self):
        for seed in range(400):
            text = Maker(seed).text()
            retold = Retold(text)
            places = []
            for block in range(-1, len(retold.blocks) + 1):
                lines = retold.lines(block) or []
                places += itertools.product([block], range(-1, len(lines) + 1), ["", "q", "r p", "P"])
            self.assertEqual(asked(text, [live(*place) for place in places]),
                             [[retold.live(*place)] for place in places], text)

    def test_dead_and_unused(self):
        found = 0
        for seed in range(400):
            for text in [Maker(seed).text(), Maker(seed, True).text()]:
                retold = Retold(text)
                lines = retold.dead()
                found += len(lines) // 2
                self.assertEqual(run(read_text(text), dead(), unused())[1:],
                                 [[len(lines) // 2] + lines, texts(*retold.unused())], text)
        self.assertGreater(found, 500)
