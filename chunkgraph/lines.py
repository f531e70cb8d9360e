"""One line of a document's text, taken for a header or for a line of a chunk part."""

from chunkgraph.parts import CODE, ELSE, END_OF_IF, IF, LITERAL, PARAMETER, USE, Line, Part, Piece
from chunkgraph.words import AT, coded, is_argument, is_name, is_path, is_short_name, split_called

MOST_PARAMETERS = 4


# The part, without lines, that a header begins, or None if the text is no header.
def parse_header(text, block):
    file_word = coded("@file ")
    chunk_word = coded("@chunk ")
    if text[:len(file_word)] == file_word:
        return parse_file_header(text[len(file_word):], block)
    if text[:len(chunk_word)] == chunk_word:
        return parse_chunk_header(text[len(chunk_word):], block)
    return None


def parse_file_header(path, block):
    if not is_path(path):
        return None
    return Part(block, 1, path, ())


def parse_chunk_header(text, block):
    called = split_called(text)
    if called is None or not is_name(called[0]) or not are_parameters(called[1]):
        return None
    return Part(block, 0, called[0], called[1])


def are_parameters(texts):
    if len(texts) > MOST_PARAMETERS or len(set(texts)) != len(texts):
        return False
    return all([is_short_name(text) for text in texts])


# The line of a part that a text is the text of, or None if there is none.
def parse_line(text):
    if text == coded("@else"):
        return Line(ELSE, None, ())
    if text == coded("@fi"):
        return Line(END_OF_IF, None, ())
    if_word = coded("@if ")
    if text[:len(if_word)] == if_word and is_short_name(text[len(if_word):]):
        return Line(IF, text[len(if_word):], ())
    pieces = parse_pieces(text)
    if pieces is None:
        return None
    return Line(CODE, None, pieces)


# The pieces of a code line's text, or None if it is no such text.
def parse_pieces(text):
    pieces = []
    place = 0
    while place < len(text):
        end = literal_end(text, place)
        if end > place:
            piece = Piece(LITERAL, text[place:end], ())
        else:
            end = mark_end(text, place)
            piece = parse_mark(text[place:end])
        if piece is None:
            return None
        pieces.append(piece)
        place = end
    return tuple(pieces)


# Where the literal ends that begins at a place; the place itself if none begins there.
def literal_end(text, place):
    while place < len(text):
        if text[place] != AT:
            place += 1
        elif text[place:place + 2] == (AT, AT):
            place += 2
        else:
            return place
    return place


# Where the use or the parameter ends that begins at a place; the text's end if nothing closes it.
def mark_end(text, place):
    closing = ord("}") if text[place:place + 2] == coded("@{") else ord(">")
    # A use has no other } in it and a parameter no other >, so the first one counts.
    if closing not in text[place:]:
        return len(text)
    return text.index(closing, place) + 1


# The use or the parameter that a text is the text of, or None if there is none.
def parse_mark(text):
    if text[:2] == coded("@{") and text[-1:] == coded("}"):
        return parse_use(text[2:-1])
    if text[:2] == coded("@<") and text[-1:] == coded(">") and is_short_name(text[2:-1]):
        return Piece(PARAMETER, text[2:-1], ())
    return None


def parse_use(text):
    called = split_called(text)
    if called is None or not is_name(called[0]):
        return None
    if not all([is_argument(argument) for argument in called[1]]):
        return None
    return Piece(USE, called[0], called[1])
