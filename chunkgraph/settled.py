"""What holds under all variants at once: which lines are dead and which chunks are unused."""

from chunkgraph.graph import chunks_used
from chunkgraph.parts import CODE


# Sets of variants as whole numbers, in which each variant has its own bit: 1 if it is in the set, else 0.
# So all variants are looked at in one step; one by one they would be up to 256 times as many steps.
# every is the set of all variants, having_on tells for each setting the set of those that have it on.
class VariantSets:
    def __init__(self, settings):
        self.every = 1
        self.having_on = {}
        count = 1
        for setting in settings:
            # The variants so far come once more, behind themselves, with this setting on.
            for earlier in list(self.having_on):
                self.having_on[earlier] |= self.having_on[earlier] << count
            self.having_on[setting] = self.every << count
            self.every |= self.every << count
            count *= 2

    # The set of the variants under which a code line is live.
    def live_set(self, line):
        found = self.every
        for setting, on in line.conditions:
            if on:
                found &= self.having_on[setting]
            else:
                found &= self.every ^ self.having_on[setting]
        return found


# For each pair of a node and a chunk that it needs at all, the set of the variants under which it needs it.
def need_sets(document, sets):
    found = {}
    for number, node in enumerate(document.nodes):
        for line in node.lines:
            live = sets.live_set(line)
            for used in chunks_used(document, [line]):
                found[(number, used)] = found.get((number, used), 0) | live
    return found


# For each node the set of the variants under which a file reaches it; a file reaches itself under all.
def reached_sets(document, sets):
    reached = [sets.every if node.file == 1 else 0 for node in document.nodes]
    needed = need_sets(document, sets)
    before = []
    while before != reached:
        before = list(reached)
        for pair, under in needed.items():
            reached[pair[1]] |= reached[pair[0]] & under
    return reached


# The pairs of block and line of all dead code lines, in the order of the text.
def dead_lines(document):
    sets = VariantSets(document.settings)
    reached = reached_sets(document, sets)
    places = []
    for part in document.parts:
        under = reached[document.part_number(part)]
        for number, line in enumerate(part.lines):
            if line.kind == CODE and (sets.live_set(line) & under) == 0:
                places.append((part.block, number))
    return places


# The numbers of the chunks that no file reaches under any variant.
def unused_chunks(document):
    reached = reached_sets(document, VariantSets(document.settings))
    return [number for number, under in enumerate(reached) if under == 0]
