"""The smallest things of a document's text, all of them tuples of bytes: names, paths, short names, arguments."""

LINE_END = 10
BLANK = 32
FIRST_SIGN = 32
LAST_SIGN = 126
COMMA = 44
DASH = 45
OPENING = 40
CLOSING = 41
AT = 64

MOST_NAME_BYTES = 30
MOST_PATH_BYTES = 40
MOST_SHORT_NAME_BYTES = 12
MOST_ARGUMENT_BYTES = 40


# The bytes of a text of ASCII signs.
def coded(text):
    return tuple([ord(sign) for sign in text])


def is_sign(byte):
    return FIRST_SIGN <= byte <= LAST_SIGN


def is_small_letter(byte):
    return ord("a") <= byte <= ord("z")


def is_great_letter(byte):
    return ord("A") <= byte <= ord("Z")


def is_digit(byte):
    return ord("0") <= byte <= ord("9")


def is_word_byte(byte):
    return is_small_letter(byte) or is_digit(byte) or byte == DASH


def is_path_byte(byte):
    return is_small_letter(byte) or is_great_letter(byte) or is_digit(byte) or byte in coded("._/-")


def is_short_name_byte(byte):
    return is_small_letter(byte) or is_digit(byte)


def is_argument_byte(byte):
    return is_sign(byte) and byte not in coded(",(){}@")


def is_word(text):
    return len(text) > 0 and all([is_word_byte(byte) for byte in text])


def is_name(text):
    if len(text) > MOST_NAME_BYTES:
        return False
    return all([is_word(word) for word in split_at(text, BLANK)])


def is_path(text):
    if len(text) == 0 or len(text) > MOST_PATH_BYTES:
        return False
    return all([is_path_byte(byte) for byte in text])


def is_short_name(text):
    if len(text) == 0 or len(text) > MOST_SHORT_NAME_BYTES:
        return False
    return is_small_letter(text[0]) and all([is_short_name_byte(byte) for byte in text])


def is_argument(text):
    if len(text) > MOST_ARGUMENT_BYTES or text[:1] == (BLANK,) or text[-1:] == (BLANK,):
        return False
    return all([is_argument_byte(byte) for byte in text])


# What stands between the places of a byte: always one text more than there are such places.
def split_at(text, byte):
    texts = []
    start = 0
    for place, value in enumerate(text):
        if value == byte:
            texts.append(text[start:place])
            start = place + 1
    texts.append(text[start:])
    return texts


# The items that a comma and a blank part, or None if a comma stands without its blank.
def split_list(text):
    texts = split_at(text, COMMA)
    for later in texts[1:]:
        if later[:1] != (BLANK,):
            return None
    return tuple(texts[:1] + [later[1:] for later in texts[1:]])


# A pair of what stands before the bracket and the items within (none without a bracket), or None.
def split_called(text):
    if OPENING not in text:
        return (text, ())
    if text[-1] != CLOSING:
        return None
    place = text.index(OPENING)
    items = split_list(text[place + 1:-1])
    if items is None:
        return None
    return (text[:place], items)


# The settings that a variant's text has on, as a dict of True, or None if it is no variant's text.
def variant_of(text):
    settings = {}
    if len(text) == 0:
        return settings
    for word in split_at(text, BLANK):
        if not is_short_name(word):
            return None
        settings[word] = True
    return settings
