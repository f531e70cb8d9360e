"""The calls on one object, which holds a document, and their answers as one list of whole numbers."""

from chunkgraph.graph import Document, is_live, is_unknown, is_wrong, needs_at_all, needs_under, places_of_uses
from chunkgraph.order import copies_of, depths, has_circle, order_of_need
from chunkgraph.parts import CODE
from chunkgraph.reader import Reader
from chunkgraph.refusals import HasCircle, NoBlock, NoChunk, NoCodeLine, NoLine, NoNode, NoNodeKind, NoPart
from chunkgraph.refusals import NoVariant, NoWay, Refusal, TextTooLong, TooManyCopies, TooManySettings
from chunkgraph.settled import dead_lines, unused_chunks
from chunkgraph.ways import first_circle, least_way, reached_from, users_of
from chunkgraph.words import variant_of

MOST_TEXT_BYTES = 20000
MOST_COPIES = 1000000000000000000
MOST_SETTLED_SETTINGS = 8


# The object that the calls are on; it outlives the documents that are read one after the other.
class Holder:
    def __init__(self):
        self.document = Document([], 0)


# Where in the list of calls one is: the list belongs to the caller, so it is only read.
class Feed:
    def __init__(self, calls):
        self.calls = calls
        self.place = 0

    def is_used_up(self):
        return self.place == len(self.calls)

    def take_number(self):
        self.place += 1
        return self.calls[self.place - 1]

    def take_row(self):
        length = self.take_number()
        self.place += length
        return tuple(self.calls[self.place - length:self.place])


def told_node(document, file, name):
    if file not in (0, 1):
        raise NoNodeKind()
    if (file, name) not in document.node_numbers:
        raise NoNode()
    return document.node_numbers[(file, name)]


def told_chunk(document, name):
    number = document.chunk_number(name)
    if number is None:
        raise NoNode()
    return number


def told_variant(text):
    variant = variant_of(text)
    if variant is None:
        raise NoVariant()
    return variant


# The code line that a block's and a line's number tell.
def told_code_line(document, block, number):
    if not 0 <= block < document.block_count:
        raise NoBlock()
    part = document.part_at(block)
    if part is None:
        raise NoPart()
    if not 0 <= number < len(part.lines):
        raise NoLine()
    if part.lines[number].kind != CODE:
        raise NoCodeLine()
    return part.lines[number]


def refuse_circle(document):
    if has_circle(needs_at_all(document)):
        raise HasCircle()


def refuse_unsettled(document):
    if len(document.settings) > MOST_SETTLED_SETTINGS:
        raise TooManySettings()


def text_answer(text):
    return [len(text)] + list(text)


def names_answer(document, numbers):
    answer = [len(numbers)]
    for number in numbers:
        answer.extend(text_answer(document.nodes[number].name))
    return answer


def marked_names_answer(document, numbers):
    answer = [len(numbers)]
    for number in numbers:
        node = document.nodes[number]
        answer.extend([node.file] + text_answer(node.name))
    return answer


def places_answer(places):
    answer = [len(places)]
    for place in places:
        answer.extend(list(place))
    return answer


# Every call takes the holder, its whole numbers and its rows, so that one table can hold them all.

def read(holder, numbers, rows):
    text = rows[0]
    if len(text) > MOST_TEXT_BYTES:
        raise TextTooLong()
    reader = Reader()
    fault = reader.take_text(text)
    if fault is not None:
        return fault
    holder.document = Document(reader.parts, reader.block_count)
    return [0, reader.block_count]


def nodes(holder, numbers, rows):
    document = holder.document
    answer = [len(document.nodes)]
    for node in document.nodes:
        answer.append(node.file)
        answer.extend(text_answer(node.name))
        answer.extend([node.part_count, len(node.parameters)])
    return answer


def unknown(holder, numbers, rows):
    document = holder.document
    return places_answer([place for place, use in places_of_uses(document) if is_unknown(document, use)])


def wrong(holder, numbers, rows):
    document = holder.document
    return places_answer([place for place, use in places_of_uses(document) if is_wrong(document, use)])


def needs(holder, numbers, rows):
    document = holder.document
    node = told_node(document, numbers[0], rows[0])
    return names_answer(document, needs_at_all(document)[node])


def users(holder, numbers, rows):
    document = holder.document
    chunk = told_chunk(document, rows[0])
    return marked_names_answer(document, users_of(needs_at_all(document), chunk))


def reach(holder, numbers, rows):
    document = holder.document
    node = told_node(document, numbers[0], rows[0])
    variant = told_variant(rows[1])
    reached = reached_from(needs_under(document, variant), node)
    # A file reaches itself, but it is no chunk.
    return names_answer(document, [number for number in reached if document.nodes[number].file == 0])


def way(holder, numbers, rows):
    document = holder.document
    origin = told_node(document, numbers[0], rows[0])
    target = told_chunk(document, rows[1])
    found = least_way(needs_at_all(document), origin, target)
    if len(found) == 0:
        raise NoWay()
    return names_answer(document, found)


def circle(holder, numbers, rows):
    document = holder.document
    return names_answer(document, first_circle(needs_at_all(document)))


def order(holder, numbers, rows):
    document = holder.document
    taken = order_of_need(needs_at_all(document))
    return marked_names_answer(document, taken) + [len(document.nodes) - len(taken)]


def copies(holder, numbers, rows):
    document = holder.document
    node = told_node(document, numbers[0], rows[0])
    chunk = document.chunk_number(rows[1])
    if chunk is None:
        raise NoChunk()
    variant = told_variant(rows[2])
    refuse_circle(document)
    count = copies_of(document, chunk, variant)[node]
    if count > MOST_COPIES:
        raise TooManyCopies()
    return [count]


def depth(holder, numbers, rows):
    document = holder.document
    node = told_node(document, numbers[0], rows[0])
    refuse_circle(document)
    return [depths(needs_at_all(document))[node]]


def live(holder, numbers, rows):
    line = told_code_line(holder.document, numbers[0], numbers[1])
    return [1 if is_live(line, told_variant(rows[0])) else 0]


def dead(holder, numbers, rows):
    refuse_unsettled(holder.document)
    return places_answer(dead_lines(holder.document))


def unused(holder, numbers, rows):
    refuse_unsettled(holder.document)
    return names_answer(holder.document, unused_chunks(holder.document))


def size(holder, numbers, rows):
    document = holder.document
    code_lines = 0
    for part in document.parts:
        code_lines += len([line for line in part.lines if line.kind == CODE])
    return [len(document.nodes), len(places_of_uses(document)), len(document.settings), code_lines]


# For each call's number what answers it, how many whole numbers it has and how many rows.
CALLS = {
    0: (read, 0, 1),
    1: (nodes, 0, 0),
    2: (unknown, 0, 0),
    3: (wrong, 0, 0),
    4: (needs, 1, 1),
    5: (users, 0, 1),
    6: (reach, 1, 2),
    7: (way, 1, 2),
    8: (circle, 0, 0),
    9: (order, 0, 0),
    10: (copies, 1, 3),
    11: (depth, 1, 1),
    12: (live, 2, 1),
    13: (dead, 0, 0),
    14: (unused, 0, 0),
    15: (size, 0, 0),
}


def answer_call(holder, feed):
    call = CALLS[feed.take_number()]
    numbers = [feed.take_number() for count in range(call[1])]
    rows = [feed.take_row() for count in range(call[2])]
    try:
        return call[0](holder, numbers, rows)
    except Refusal as refusal:
        return [refusal.number]


def answers(calls):
    holder = Holder()
    feed = Feed(calls)
    given = []
    while not feed.is_used_up():
        answer = answer_call(holder, feed)
        given.append(len(answer))
        given.extend(answer)
    return given
