"""The refusals: each is an error that bears the number by which a call answers it."""


# What every refusal stands under.
class Refusal(Exception):
    def __init__(self, number):
        self.number = number


# The text of a variant is not one.
class NoVariant(Refusal):
    def __init__(self):
        Refusal.__init__(self, -1)


# The number of a node is neither a chunk's nor a file's.
class NoNodeKind(Refusal):
    def __init__(self):
        Refusal.__init__(self, -2)


# The document has no such node.
class NoNode(Refusal):
    def __init__(self):
        Refusal.__init__(self, -3)


# There is no way from the one node to the other.
class NoWay(Refusal):
    def __init__(self):
        Refusal.__init__(self, -4)


# A text has more bytes than a document's may have.
class TextTooLong(Refusal):
    def __init__(self):
        Refusal.__init__(self, -6)
