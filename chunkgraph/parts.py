"""What a document is made of: chunk parts, their lines and the pieces of these."""

LITERAL = "literal"
USE = "use"
PARAMETER = "parameter"

CODE = "code"
IF = "if"
ELSE = "else"
END_OF_IF = "end of if"


# A literal with its text, a use with its name and arguments, or a parameter with its short name.
class Piece:
    def __init__(self, kind, text, arguments):
        self.kind = kind
        self.text = text
        self.arguments = arguments


# A code line with its pieces, or a condition line; setting is an if's alone.
# conditions are pairs of a setting and whether it is to be on, and a code line's alone.
class Line:
    def __init__(self, kind, setting, pieces):
        self.kind = kind
        self.setting = setting
        self.pieces = pieces
        self.conditions = ()


# A chunk part: file is 1 for a file's and 0 for a chunk's; block is its number among the blocks.
class Part:
    def __init__(self, block, file, name, parameters):
        self.block = block
        self.file = file
        self.name = name
        self.parameters = parameters
        self.lines = []
