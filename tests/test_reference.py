"""The answers beside those of a slow and plain retelling of the document, on many made-up texts."""

import itertools
import random
import re
import unittest

from tests.support import needs, nodes, reach, read_text, run, size, texts, unknown, users, way, wrong

WORD = r"[a-z0-9-]+"
NAME = r"(?=[a-z0-9 -]{1,30}(?![a-z0-9 -]))" + WORD + "(?: " + WORD + ")*"
SHORT = r"[a-z][a-z0-9]{0,11}"
ARGUMENT = r"(?:|(?! )(?:(?![,(){}@])[ -~]){0,39}(?![,(){}@ ])[ -~])"
USE = r"@\{(" + NAME + r")(\(" + ARGUMENT + "(?:, " + ARGUMENT + r")*\))?\}"
PARAMETER = r"@<(" + SHORT + ")>"
LITERAL = r"(?:[^@]|@@)+"
PIECE = "|".join([USE, PARAMETER, LITERAL])
CODE = "(?:" + PIECE + ")*"
CHUNK = r"@chunk (" + NAME + r")(?:\((" + SHORT + "(?:, " + SHORT + r"){0,3})\))?"
FILE = r"@file ([A-Za-z0-9._/-]{1,40})"


class Retold:
    """A text without fault, or its fault."""

    def __init__(self, text):
        self.fault = None
        self.blocks = []
        self.parameters = {}
        lines = text.split("\n")
        self.stack = None
        for number, line in enumerate(lines[:-1], start=1):
            reason = self.reason(line)
            if reason:
                self.fault = [number, reason]
                return
            self.take(line)
        if lines[-1]:
            self.fault = [len(lines), 1]
        elif self.stack is not None:
            self.fault = [len(lines), 8]

    def reason(self, line):
        if len(line) > 200 or re.search(r"[^ -~]", line):
            return 1
        chunk = re.fullmatch(CHUNK, line)
        parameters = (chunk.group(2) or "").split(", ") if chunk else []
        header = re.fullmatch(FILE, line) or (chunk and len(set(parameters)) == len(parameters))
        if self.stack is None:
            if re.match("@(?!@)", line) and not header:
                return 2
            if chunk and self.parameters.get(chunk.group(1), chunk.group(2)) != chunk.group(2):
                return 7
            return 0
        condition = re.fullmatch("@if " + SHORT + "|@else|@fi", line)
        if not (line == "@end" or condition or re.fullmatch(CODE, line)):
            return 3
        if line == "@end" and self.stack:
            return 4
        if line in ("@else", "@fi") and not self.stack:
            return 4
        if line == "@else" and self.stack[-1][1] == "off":
            return 4
        if line.startswith("@if ") and len(self.stack) == 6:
            return 4
        if not condition and line != "@end":
            known = (self.blocks[-1][2] or "").split(", ")
            if any(piece.group(3) and piece.group(3) not in known for piece in re.finditer(PIECE, line)):
                return 5
        return 0

    def take(self, line):
        if self.stack is None:
            chunk = re.fullmatch(CHUNK, line)
            file = re.fullmatch(FILE, line)
            if chunk:
                self.parameters[chunk.group(1)] = chunk.group(2)
                self.blocks.append((0, chunk.group(1), chunk.group(2), []))
                self.stack = []
            elif file:
                self.blocks.append((1, file.group(1), None, []))
                self.stack = []
            else:
                self.blocks.append(None)
        elif line == "@end":
            self.stack = None
        else:
            self.take_line(line)

    def take_line(self, line):
        lines = self.blocks[-1][3]
        if line.startswith("@if "):
            self.stack.append((line[4:], "on"))
            lines.append(("if", line[4:], []))
        elif line == "@else":
            self.stack.append((self.stack.pop()[0], "off"))
            lines.append(("else", None, []))
        elif line == "@fi":
            self.stack.pop()
            lines.append(("fi", None, []))
        else:
            lines.append(("code", list(self.stack), [piece for piece in re.finditer(PIECE, line)]))

    def all_parts(self):
        return [(number, block) for number, block in enumerate(self.blocks) if block]

    def uses(self):
        """(block, line, piece, name, how many arguments, node, conditions) of each use."""
        found = []
        for number, (file, name, parameters, lines) in self.all_parts():
            for place, (kind, conditions, pieces) in enumerate(lines):
                for index, piece in enumerate(pieces):
                    if piece.group(1):
                        count = piece.group(2).count(",") + 1 if piece.group(2) else 0
                        found.append((number, place, index, piece.group(1), count, (file, name), conditions))
        return found

    def nodes(self):
        files = [block[1] for number, block in self.all_parts() if block[0] == 1]
        standing = []
        for number, (file, name, parameters, lines) in self.all_parts():
            if file == 0:
                standing.append(name)
            standing += [use[3] for use in self.uses() if use[0] == number]
        told = [block[1] for number, block in self.all_parts() if block[0] == 0]
        chunks = [name for name in standing if name in told]
        return [(1, name) for name in dict.fromkeys(files)] + [(0, name) for name in dict.fromkeys(chunks)]

    def parameter_count(self, name):
        told = self.parameters[name]
        return len(told.split(", ")) if told else 0

    def needs(self, variant=None):
        """The pairs of nodes of which the one needs the other, under a variant or at all."""
        pairs = set()
        for use in self.uses():
            live = variant is None or all((setting in variant) == (state == "on") for setting, state in use[6])
            if live and (0, use[3]) in self.nodes():
                pairs.add((use[5], (0, use[3])))
        return pairs

    def reach(self, node, variant):
        pairs = self.needs(variant)
        found = {node}
        for step in self.nodes():
            found |= {second for first, second in pairs if first in found}
        return [other[1] for other in self.nodes() if other in found and other[0] == 0]

    def way(self, node, target):
        pairs = self.needs()
        between = [other for other in self.nodes() if other != node and other != target]
        for count in range(len(between) + 1):
            for middle in itertools.permutations(between, count):
                row = [node, *middle, target]
                if all(pair in pairs for pair in zip(row, row[1:])):
                    return [other[1] for other in row]
        return None

    def size(self):
        lines = [line for number, block in self.all_parts() for line in block[3]]
        settings = {setting for kind, setting, pieces in lines if kind == "if"}
        return [len(self.nodes()), len(self.uses()), len(settings), len([line for line in lines if line[0] == "code"])]


class Maker:
    """Made-up documents, small enough that the retelling can try every way."""

    names = ["a", "b", "c", "d d", "e-1", "f"]
    parameters = {"a": "", "b": "(x)", "c": "", "d d": "(x, y)", "e-1": "", "f": ""}

    def __init__(self, seed):
        self.random = random.Random(seed)

    def piece(self, name):
        choice = self.random.randrange(10)
        if choice < 5:
            used = self.random.choice(self.names + ["nowhere"])
            return "@{" + used + self.random.choice(["", "", "()", "(u)", "(u, v)", "(, )"]) + "}"
        if choice < 6 and self.parameters.get(name):
            return "@<x>"
        return self.random.choice(["t", "@@", " ", "{", ">", "@@{a}", "!"])

    def lines(self, name, depth):
        lines = []
        for count in range(self.random.randrange(3)):
            if depth < 3 and self.random.randrange(3) == 0:
                lines.append("@if " + self.random.choice("pqr"))
                lines += self.lines(name, depth + 1)
                if self.random.randrange(2):
                    lines += ["@else"] + self.lines(name, depth + 1)
                lines.append("@fi")
            else:
                lines.append("".join(self.piece(name) for piece in range(self.random.randrange(4))))
        return lines

    def text(self):
        lines = []
        for count in range(self.random.randrange(9)):
            choice = self.random.randrange(8)
            name = self.random.choice(self.names)
            if choice == 0:
                lines.append(self.random.choice(["", "words", "@@", "a@b"]))
            elif choice < 3:
                lines += ["@file " + self.random.choice(["a", "m/M.c"])] + self.lines("", 0) + ["@end"]
            else:
                lines += ["@chunk " + name + self.parameters[name]] + self.lines(name, 0) + ["@end"]
        return "".join(line + "\n" for line in lines)

    def spoilt(self, text):
        if self.random.randrange(4) == 0:
            return text.replace(*self.random.choice([("@chunk b(x)", "@chunk b"), ("@chunk a", "@chunk a(x)"),
                                                     ("(x, y)", "(y, x)")]), 1)
        for count in range(self.random.randrange(1, 4)):
            place = self.random.randrange(len(text) + 1)
            end = min(len(text), place + self.random.randrange(3))
            put = self.random.choice(["", "", "@", "\n", " ", "(", ")", ", ", "}", "@end\n", "@fi\n", "@else\n", "@if p\n",
                                      "@<y>", "X", "x", "\t", "@{", "@<", "-", "0"])
            text = text[:place] + put + text[end:]
        return text


class Beside(unittest.TestCase):
    def test_faults(self):
        seen = {}
        for seed in range(3000):
            maker = Maker(seed)
            text = maker.spoilt(maker.text())
            retold = Retold(text)
            self.assertEqual(run(read_text(text)), [retold.fault or [0, len(retold.blocks)]], text)
            reason = retold.fault[1] if retold.fault else 0
            seen[reason] = seen.get(reason, 0) + 1
        self.assertEqual(sorted(seen), [0, 1, 2, 3, 4, 5, 7, 8])

    def test_the_document_as_a_whole(self):
        for seed in range(400):
            text = Maker(seed).text()
            retold = Retold(text)
            self.assertIsNone(retold.fault, text)
            told = []
            for file, name in retold.nodes():
                parts = len([block for number, block in retold.all_parts() if block[:2] == (file, name)])
                told += [file, len(name), *name.encode(), parts, 0 if file else retold.parameter_count(name)]
            uses = retold.uses()
            strange = [use[:3] for use in uses if (0, use[3]) not in retold.nodes()]
            false = [use[:3] for use in uses if use[:3] not in strange and use[4] != retold.parameter_count(use[3])]
            self.assertEqual(run(read_text(text), nodes(), unknown(), wrong(), size())[1:], [
                [len(retold.nodes())] + told,
                [len(strange), *itertools.chain(*strange)],
                [len(false), *itertools.chain(*false)],
                retold.size()], text)

    def test_needs_and_users(self):
        for seed in range(400):
            text = Maker(seed).text()
            retold = Retold(text)
            pairs = retold.needs()
            for file, name in retold.nodes():
                needed = [other[1] for other in retold.nodes() if ((file, name), other) in pairs]
                using = [other for other in retold.nodes() if (other, (0, name)) in pairs]
                given = run(read_text(text), needs(file, name), users(name))
                self.assertEqual(given[1], texts(*needed), text)
                if (0, name) in retold.nodes():
                    flat = [number for other in using for number in [other[0], len(other[1]), *other[1].encode()]]
                    self.assertEqual(given[2], [len(using)] + flat, text)

    def test_reach(self):
        for seed in range(250):
            text = Maker(seed).text()
            retold = Retold(text)
            for file, name in retold.nodes():
                for variant in ["", "p", "q", "r p", "p q", "s r q p"]:
                    self.assertEqual(run(read_text(text), reach(file, name, variant))[1],
                                     texts(*retold.reach((file, name), variant.split())), text)

    def test_way(self):
        found = 0
        for seed in range(150):
            text = Maker(seed).text()
            retold = Retold(text)
            targets = [node for node in retold.nodes() if node[0] == 0]
            for node in retold.nodes():
                for target in targets:
                    expected = retold.way(node, target)
                    found = max(found, len(expected or []))
                    self.assertEqual(run(read_text(text), way(*node, target[1]))[1],
                                     texts(*expected) if expected else [-4], text)
        self.assertGreater(found, 3)
