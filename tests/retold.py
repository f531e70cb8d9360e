"""A slow and plain retelling of the document, and made-up texts to set it beside the program on."""

import functools
import itertools
import random
import re

WORD = r"[a-z0-9-]+"
NAME = r"(?=[a-z0-9 -]{1,30}(?![a-z0-9 -]))" + WORD + "(?: " + WORD + ")*"
SHORT = r"[a-z][a-z0-9]{0,11}"
ARGUMENT = r"(?:|(?! )(?:(?![,(){}@])[ -~]){0,39}(?![,(){}@ ])[ -~])"
USE = r"@\{(" + NAME + r")(\(" + ARGUMENT + "(?:, " + ARGUMENT + r")*\))?\}"
PARAMETER = r"@<(" + SHORT + ")>"
LITERAL = r"(?:[^@]|@@)+"
PIECE = "|".join([USE, PARAMETER, LITERAL])
CODE = "(?:" + PIECE + ")*"
CHUNK = r"@chunk (" + NAME + r")(?:\((" + SHORT + "(?:, " + SHORT + r"){0,3})\))?"
FILE = r"@file ([A-Za-z0-9._/-]{1,40})"


class Retold:
    """A text without fault, or its fault."""

    def __init__(self, text):
        self.fault = None
        self.blocks = []
        self.parameters = {}
        lines = text.split("\n")
        self.stack = None
        for number, line in enumerate(lines[:-1], start=1):
            reason = self.reason(line)
            if reason:
                self.fault = [number, reason]
                return
            self.take(line)
        if lines[-1]:
            self.fault = [len(lines), 1]
        elif self.stack is not None:
            self.fault = [len(lines), 8]

    def reason(self, line):
        if len(line) > 200 or re.search(r"[^ -~]", line):
            return 1
        chunk = re.fullmatch(CHUNK, line)
        parameters = (chunk.group(2) or "").split(", ") if chunk else []
        header = re.fullmatch(FILE, line) or (chunk and len(set(parameters)) == len(parameters))
        if self.stack is None:
            if re.match("@(?!@)", line) and not header:
                return 2
            if chunk and self.parameters.get(chunk.group(1), chunk.group(2)) != chunk.group(2):
                return 7
            return 0
        condition = re.fullmatch("@if " + SHORT + "|@else|@fi", line)
        if not (line == "@end" or condition or re.fullmatch(CODE, line)):
            return 3
        if line == "@end" and self.stack:
            return 4
        if line in ("@else", "@fi") and not self.stack:
            return 4
        if line == "@else" and self.stack[-1][1] == "off":
            return 4
        if line.startswith("@if ") and len(self.stack) == 6:
            return 4
        if not condition and line != "@end":
            known = (self.blocks[-1][2] or "").split(", ")
            if any(piece.group(3) and piece.group(3) not in known for piece in re.finditer(PIECE, line)):
                return 5
        return 0

    def take(self, line):
        if self.stack is None:
            chunk = re.fullmatch(CHUNK, line)
            file = re.fullmatch(FILE, line)
            if chunk:
                self.parameters[chunk.group(1)] = chunk.group(2)
                self.blocks.append((0, chunk.group(1), chunk.group(2), []))
                self.stack = []
            elif file:
                self.blocks.append((1, file.group(1), None, []))
                self.stack = []
            else:
                self.blocks.append(None)
        elif line == "@end":
            self.stack = None
        else:
            self.take_line(line)

    def take_line(self, line):
        lines = self.blocks[-1][3]
        if line.startswith("@if "):
            self.stack.append((line[4:], "on"))
            lines.append(("if", line[4:], []))
        elif line == "@else":
            self.stack.append((self.stack.pop()[0], "off"))
            lines.append(("else", None, []))
        elif line == "@fi":
            self.stack.pop()
            lines.append(("fi", None, []))
        else:
            lines.append(("code", list(self.stack), [piece for piece in re.finditer(PIECE, line)]))

    def all_parts(self):
        return [(number, block) for number, block in enumerate(self.blocks) if block]

    @functools.cache
    def uses(self):
        """(block, line, piece, name, how many arguments, node, conditions) of each use."""
        found = []
        for number, (file, name, parameters, lines) in self.all_parts():
            for place, (kind, conditions, pieces) in enumerate(lines):
                for index, piece in enumerate(pieces):
                    if piece.group(1):
                        count = piece.group(2).count(",") + 1 if piece.group(2) else 0
                        found.append((number, place, index, piece.group(1), count, (file, name), conditions))
        return found

    @functools.cache
    def nodes(self):
        files = [block[1] for number, block in self.all_parts() if block[0] == 1]
        standing = []
        for number, (file, name, parameters, lines) in self.all_parts():
            if file == 0:
                standing.append(name)
            standing += [use[3] for use in self.uses() if use[0] == number]
        told = [block[1] for number, block in self.all_parts() if block[0] == 0]
        chunks = [name for name in standing if name in told]
        return [(1, name) for name in dict.fromkeys(files)] + [(0, name) for name in dict.fromkeys(chunks)]

    def parameter_count(self, name):
        told = self.parameters[name]
        return len(told.split(", ")) if told else 0

    def needs(self, variant=None):
        """The pairs of nodes of which the one needs the other, under a variant or at all."""
        pairs = set()
        for use in self.uses():
            live = variant is None or self.is_live(use[6], variant)
            if live and (0, use[3]) in self.nodes():
                pairs.add((use[5], (0, use[3])))
        return pairs

    def reach(self, node, variant):
        pairs = self.needs(variant)
        found = {node}
        for step in self.nodes():
            found |= {second for first, second in pairs if first in found}
        return [other[1] for other in self.nodes() if other in found and other[0] == 0]

    def way(self, node, target):
        pairs = self.needs()
        between = [other for other in self.nodes() if other != node and other != target]
        for count in range(len(between) + 1):
            for middle in itertools.permutations(between, count):
                row = [node, *middle, target]
                if all(pair in pairs for pair in zip(row, row[1:])):
                    return [other[1] for other in row]
        return None

    def circle(self):
        for node in self.nodes():
            found = self.way(node, node)
            if found:
                return found
        return []

    def order(self):
        pairs = self.needs()
        taken = []
        while True:
            free = [node for node in self.nodes() if node not in taken
                    and all(second in taken for first, second in pairs if first == node)]
            if not free:
                return taken
            taken.append(free[0])

    def is_live(self, conditions, variant):
        return all((setting in variant) == (state == "on") for setting, state in conditions)

    def lines(self, block):
        """The lines of a block, or None if it is prose or no block."""
        there = 0 <= block < len(self.blocks) and self.blocks[block]
        return self.blocks[block][3] if there else None

    def live(self, block, line, variant):
        lines = self.lines(block)
        if lines is None:
            return -4 if 0 <= block < len(self.blocks) else -2
        if not 0 <= line < len(lines):
            return -2
        if lines[line][0] != "code":
            return -5
        if not re.fullmatch("(" + SHORT + "( " + SHORT + ")*)?", variant):
            return -1
        return 1 if self.is_live(lines[line][1], variant.split()) else 0

    def copies(self, node, chunk, variant):
        count = 0
        for use in self.uses():
            if use[5] == node and self.is_live(use[6], variant) and (0, use[3]) in self.nodes():
                count += 1 if use[3] == chunk else self.copies((0, use[3]), chunk, variant)
        return count

    def depth(self, node):
        return max([1 + self.depth(second) for first, second in self.needs() if first == node], default=0)

    def settings(self):
        lines = [line for number, block in self.all_parts() for line in block[3]]
        return {setting for kind, setting, pieces in lines if kind == "if"}

    def standing(self):
        """For each variant which nodes stand in some file, a file itself among them."""
        settings = sorted(self.settings())
        found = []
        for states in itertools.product([False, True], repeat=len(settings)):
            variant = [setting for setting, state in zip(settings, states) if state]
            files = [node for node in self.nodes() if node[0] == 1]
            reached = {(0, name) for file in files for name in self.reach(file, variant)}
            found.append((variant, reached | set(files)))
        return found

    def dead(self):
        standing = self.standing()
        found = []
        for number, (file, name, parameters, lines) in self.all_parts():
            for place, (kind, conditions, pieces) in enumerate(lines):
                if kind == "code" and not any(self.is_live(conditions, variant) and (file, name) in nodes
                                              for variant, nodes in standing):
                    found += [number, place]
        return found

    def unused(self):
        standing = self.standing()
        return [node[1] for node in self.nodes() if not any(node in nodes for variant, nodes in standing)]

    def size(self):
        lines = [line for number, block in self.all_parts() for line in block[3]]
        return [len(self.nodes()), len(self.uses()), len(self.settings()), len([line for line in lines if line[0] == "code"])]


class Maker:
    """Made-up documents, small enough that the retelling can try every way."""

    names = ["a", "b", "c", "d d", "e-1", "f"]
    parameters = {"a": "", "b": "(x)", "c": "", "d d": "(x, y)", "e-1": "", "f": ""}

    def __init__(self, seed, forward=False):
        self.random = random.Random(seed)
        self.forward = forward

    def usable(self, name):
        """What a chunk may use: any name, or, if there is to be no circle, only those behind its own."""
        if self.forward and name:
            return self.names[self.names.index(name) + 1:] + ["nowhere"]
        return self.names + ["nowhere"]

    def piece(self, name):
        choice = self.random.randrange(10)
        if choice < 5:
            used = self.random.choice(self.usable(name))
            return "@{" + used + self.random.choice(["", "", "()", "(u)", "(u, v)", "(, )"]) + "}"
        if choice < 6 and self.parameters.get(name):
            return "@<x>"
        return self.random.choice(["t", "@@", " ", "{", ">", "@@{a}", "!"])

    def lines(self, name, depth):
        lines = []
        for count in range(self.random.randrange(3)):
            if depth < 3 and self.random.randrange(3) == 0:
                lines.append("@if " + self.random.choice("pqr"))
                lines += self.lines(name, depth + 1)
                if self.random.randrange(2):
                    lines += ["@else"] + self.lines(name, depth + 1)
                lines.append("@fi")
            else:
                lines.append("".join(self.piece(name) for piece in range(self.random.randrange(7 if self.forward else 4))))
        return lines

    def text(self):
        lines = []
        for count in range(self.random.randrange(14 if self.forward else 9)):
            choice = self.random.randrange(8)
            name = self.random.choice(self.names)
            if choice == 0:
                lines.append(self.random.choice(["", "words", "@@", "a@b"]))
            elif choice < 3:
                lines += ["@file " + self.random.choice(["a", "m/M.c"])] + self.lines("", 0) + ["@end"]
            else:
                lines += ["@chunk " + name + self.parameters[name]] + self.lines(name, 0) + ["@end"]
        return "".join(line + "\n" for line in lines)

    def spoilt(self, text):
        if self.random.randrange(4) == 0:
            return text.replace(*self.random.choice([("@chunk b(x)", "@chunk b"), ("@chunk a", "@chunk a(x)"),
                                                     ("(x, y)", "(y, x)")]), 1)
        for count in range(self.random.randrange(1, 4)):
            place = self.random.randrange(len(text) + 1)
            end = min(len(text), place + self.random.randrange(3))
            put = self.random.choice(["", "", "@", "\n", " ", "(", ")", ", ", "}", "@end\n", "@fi\n", "@else\n", "@if p\n",
                                      "@<y>", "X", "x", "\t", "@{", "@<", "-", "0"])
            text = text[:place] + put + text[end:]
        return text
