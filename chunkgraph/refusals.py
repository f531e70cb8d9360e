"""The refusals: each is an error that bears the number by which a call answers it."""


# What every refusal stands under.
class Refusal(Exception):
    def __init__(self, number):
        self.number = number


# The text of a variant is not one.
class NoVariant(Refusal):
    def __init__(self):
        Refusal.__init__(self, -1)


# The number of a node is neither a chunk's nor a file's.
class NoNodeKind(Refusal):
    def __init__(self):
        Refusal.__init__(self, -2)


# The document has no such node.
class NoNode(Refusal):
    def __init__(self):
        Refusal.__init__(self, -3)


# The document has no block of this number.
class NoBlock(Refusal):
    def __init__(self):
        Refusal.__init__(self, -2)


# The block has no line of this number.
class NoLine(Refusal):
    def __init__(self):
        Refusal.__init__(self, -2)


# There is no way from the one node to the other.
class NoWay(Refusal):
    def __init__(self):
        Refusal.__init__(self, -4)


# What is to be put into a node is no chunk.
class NoChunk(Refusal):
    def __init__(self):
        Refusal.__init__(self, -4)


# The block has no lines, for it is prose.
class NoPart(Refusal):
    def __init__(self):
        Refusal.__init__(self, -4)


# The line is no code line.
class NoCodeLine(Refusal):
    def __init__(self):
        Refusal.__init__(self, -5)


# A text has more bytes than a document's may have.
class TextTooLong(Refusal):
    def __init__(self):
        Refusal.__init__(self, -6)


# The document has so many settings that it is not asked about all variants.
class TooManySettings(Refusal):
    def __init__(self):
        Refusal.__init__(self, -7)


# A chunk is put into a node more often than may be answered.
class TooManyCopies(Refusal):
    def __init__(self):
        Refusal.__init__(self, -8)


# The document has a circle.
class HasCircle(Refusal):
    def __init__(self):
        Refusal.__init__(self, -9)
