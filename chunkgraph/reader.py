"""Reading a text line by line, up to its first fault."""

from chunkgraph.lines import parse_header, parse_line
from chunkgraph.parts import CODE, ELSE, IF, PARAMETER
from chunkgraph.words import AT, LINE_END, coded, is_sign, split_at

NO_FAULT = 0
SPOILT = 1
NO_HEADER = 2
NO_LINE = 3
UNPAIRED = 4
STRANGE_PARAMETER = 5
TOO_MANY = 6
OTHER_PARAMETERS = 7
NOT_CLOSED = 8

MOST_LINE_BYTES = 200
MOST_BLOCKS = 200
MOST_PARTS = 60
MOST_LINES = 400
MOST_OPEN_CONDITIONS = 6


# What has been read so far: parts holds every part begun, part the one that is not ended yet.
class Reader:
    def __init__(self):
        self.block_count = 0
        self.line_count = 0
        self.parts = []
        self.part = None
        self.open_conditions = []
        self.parameters_of_name = {}

    # A whole text: the list of its fault's line and reason, or None if it has no fault.
    def take_text(self, text):
        texts = split_at(text, LINE_END)
        for number, ended in enumerate(texts[:-1], start=1):
            reason = self.take(ended)
            if reason != NO_FAULT:
                return [number, reason]
        if len(texts[-1]) > 0:
            return [len(texts), SPOILT]
        if self.part is not None:
            return [len(texts), NOT_CLOSED]
        return None

    # One line, without what ends it: the first reason of its faults. So do all methods called take_..
    def take(self, text):
        if len(text) > MOST_LINE_BYTES or not all([is_sign(byte) for byte in text]):
            return SPOILT
        if self.part is not None:
            return self.take_within(text)
        if text[:1] == (AT,) and text[:2] != (AT, AT):
            return self.take_header(text)
        return self.take_prose()

    def take_prose(self):
        if self.block_count == MOST_BLOCKS:
            return TOO_MANY
        self.block_count += 1
        return NO_FAULT

    def take_header(self, text):
        part = parse_header(text, self.block_count)
        if part is None:
            return NO_HEADER
        if self.block_count == MOST_BLOCKS or len(self.parts) == MOST_PARTS:
            return TOO_MANY
        if part.file == 0:
            if self.parameters_of_name.get(part.name, part.parameters) != part.parameters:
                return OTHER_PARAMETERS
            self.parameters_of_name[part.name] = part.parameters
        self.block_count += 1
        self.parts.append(part)
        self.part = part
        return NO_FAULT

    def take_within(self, text):
        if text == coded("@end"):
            return self.take_end()
        line = parse_line(text)
        if line is None:
            return NO_LINE
        if self.is_unpaired(line):
            return UNPAIRED
        if self.has_strange_parameter(line):
            return STRANGE_PARAMETER
        if self.line_count == MOST_LINES:
            return TOO_MANY
        self.keep_line(line)
        return NO_FAULT

    def take_end(self):
        if len(self.open_conditions) > 0:
            return UNPAIRED
        self.part = None
        return NO_FAULT

    def is_unpaired(self, line):
        if line.kind == CODE:
            return False
        if line.kind == IF:
            return len(self.open_conditions) == MOST_OPEN_CONDITIONS
        if len(self.open_conditions) == 0:
            return True
        # A condition whose setting is to be off has had its else.
        return line.kind == ELSE and not self.open_conditions[-1][1]

    def has_strange_parameter(self, line):
        for piece in line.pieces:
            if piece.kind == PARAMETER and piece.text not in self.part.parameters:
                return True
        return False

    def keep_line(self, line):
        if line.kind == CODE:
            line.conditions = tuple(self.open_conditions)
        elif line.kind == IF:
            self.open_conditions.append((line.setting, True))
        else:
            condition = self.open_conditions.pop()
            if line.kind == ELSE:
                self.open_conditions.append((condition[0], False))
        self.part.lines.append(line)
        self.line_count += 1
