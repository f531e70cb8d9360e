"""Calls written short, and their answers taken apart."""

import unittest

from chunkgraph.documents import answers


def numbers(text):
    """The bytes of a text that is given as str, bytes or a list."""
    if isinstance(text, str):
        return list(text.encode("ascii"))
    return list(text)


def row(text):
    return [len(numbers(text))] + numbers(text)


def ended(*lines):
    """The text whose lines these are, each ended."""
    return "".join(line + "\n" for line in lines)


def read(*lines):
    return read_text(ended(*lines))


def read_text(text):
    return [0] + row(text)


def nodes():
    return [1]


def unknown():
    return [2]


def wrong():
    return [3]


def needs(file, name):
    return [4, file] + row(name)


def users(name):
    return [5] + row(name)


def reach(file, name, variant):
    return [6, file] + row(name) + row(variant)


def way(file, origin, target):
    return [7, file] + row(origin) + row(target)


def circle():
    return [8]


def order():
    return [9]


def copies(file, name, chunk, variant=""):
    return [10, file] + row(name) + row(chunk) + row(variant)


def depth(file, name):
    return [11, file] + row(name)


def live(block, line, variant=""):
    return [12, block, line] + row(variant)


def dead():
    return [13]


def unused():
    return [14]


def size():
    return [15]


def chunks(**used):
    """The lines of parts of these names, in their order, that use what is told."""
    lines = []
    for name, uses in used.items():
        lines += ["@chunk " + name, "".join("@{" + use + "}" for use in uses), "@end"]
    return lines


def texts(*names):
    """How a call answers texts, or the names of a way."""
    return [len(names)] + [number for name in names for number in row(name)]


def marked(*pairs):
    """How users answers, and order ahead of how many are left: each pair is 0 or 1 and a name."""
    return [len(pairs)] + [number for file, name in pairs for number in [file] + row(name)]


def node_rows(*rows):
    """How nodes answers: each row is 0 or 1, a name, how many parts, how many parameters."""
    answer = [len(rows)]
    for file, name, parts, parameters in rows:
        answer += [file] + row(name) + [parts, parameters]
    return answer


def taken_apart(flat):
    """The answers, one list for each call."""
    apart = []
    place = 0
    while place < len(flat):
        end = place + 1 + flat[place]
        apart.append(flat[place + 1:end])
        place = end
    if place != len(flat):
        raise ValueError("the last answer is cut off")
    return apart


def run(*calls):
    """The answers of calls on one new object, one list for each."""
    return taken_apart(answers([number for call in calls for number in call]))


class CallsTest(unittest.TestCase):
    def gives(self, calls, expected):
        """The last answers, as many as are expected, are these."""
        self.assertEqual(run(*calls)[-len(expected):], expected)

    def reads(self, blocks, *lines):
        self.assertEqual(run(read(*lines)), [[0, blocks]])

    def faults(self, line, reason, *lines):
        self.assertEqual(run(read(*lines)), [[line, reason]])
