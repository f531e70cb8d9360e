"""A document as a graph: its nodes, its uses and what needs what."""

from chunkgraph.parts import CODE, IF, USE


# A file (file is 1) or a chunk (file is 0); lines are the code lines of all its parts.
class Node:
    def __init__(self, file, name, parameters):
        self.file = file
        self.name = name
        self.parameters = parameters
        self.part_count = 0
        self.lines = []


# A document's parts and what follows from them; of prose it is only told how many blocks there are in all.
# node_numbers tells a node's place in nodes by the pair of its file and its name.
class Document:
    def __init__(self, parts, block_count):
        self.parts = parts
        self.block_count = block_count
        self.settings = settings_of(parts)
        self.nodes = nodes_of(parts)
        self.node_numbers = {}
        for number, node in enumerate(self.nodes):
            self.node_numbers[(node.file, node.name)] = number

    # The number of a chunk's node, or None if no chunk has this name.
    def chunk_number(self, name):
        return self.node_numbers.get((0, name))

    # The number of the node that a part is of.
    def part_number(self, part):
        return self.node_numbers[(part.file, part.name)]

    # The part that is a block, or None if the block is prose.
    def part_at(self, block):
        for part in self.parts:
            if part.block == block:
                return part
        return None


def settings_of(parts):
    settings = {}
    for part in parts:
        for line in part.lines:
            if line.kind == IF:
                settings[line.setting] = True
    return list(settings)


def nodes_of(parts):
    node_of_key = {}
    for part in parts:
        node = node_of_key.setdefault((part.file, part.name), Node(part.file, part.name, part.parameters))
        node.part_count += 1
        node.lines.extend([line for line in part.lines if line.kind == CODE])
    return [node_of_key[key] for key in standing_keys(parts) if key in node_of_key]


# The files and then the names that stand, with and without a part, as pairs like those of node_numbers.
def standing_keys(parts):
    files = {}
    chunks = {}
    for part in parts:
        if part.file == 1:
            files[(1, part.name)] = True
        else:
            chunks[(0, part.name)] = True
        for line in part.lines:
            for piece in uses_of(line):
                chunks[(0, piece.text)] = True
    return list(files) + list(chunks)


def uses_of(line):
    return [piece for piece in line.pieces if piece.kind == USE]


# All uses in the order of the text, each as a pair of the place (block, line, piece) and the use.
def places_of_uses(document):
    places = []
    for part in document.parts:
        for number, line in enumerate(part.lines):
            for index, piece in enumerate(line.pieces):
                if piece.kind == USE:
                    places.append(((part.block, number, index), piece))
    return places


def is_unknown(document, use):
    return document.chunk_number(use.text) is None


def is_wrong(document, use):
    number = document.chunk_number(use.text)
    return number is not None and len(use.arguments) != len(document.nodes[number].parameters)


# Whether a code line is live under a variant, which is a dict with the settings that are on.
def is_live(line, variant):
    return all([(setting in variant) == on for setting, on in line.conditions])


def live_lines(node, variant):
    return [line for line in node.lines if is_live(line, variant)]


# The numbers of the chunks that lines use: one for each known use, in the order of the uses.
def chunks_used(document, lines):
    found = []
    for line in lines:
        for use in uses_of(line):
            number = document.chunk_number(use.text)
            if number is not None:
                found.append(number)
    return found


# For each node the numbers of the chunks that it needs at all, in their order.
def needs_at_all(document):
    return [sorted(set(chunks_used(document, node.lines))) for node in document.nodes]


# For each node the numbers of the chunks that it needs under a variant, in their order.
def needs_under(document, variant):
    return [sorted(set(chunks_used(document, live_lines(node, variant)))) for node in document.nodes]
