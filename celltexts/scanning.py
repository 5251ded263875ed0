"""A text's bytes, cut into tokens."""

from celltexts.faults import FORBIDDEN_BYTE, WRONG_TOKEN, Fault

LINE_FEED = 10
BLANK = 32
LAST_ALLOWED = 126
QUOTE = 34
HASH = 35
ZERO = 48
NINE = 57
UNDERSCORE = 95
BACKSLASH = 92

LONGEST_WORD = 16
LONGEST_NUMBER = 30

LOWER_A = 97
LOWER_LETTERS = "abcdefghijklmnopqrstuvwxyz"

# What a byte behind a backslash stands for.
ESCAPED = {92: 92, 34: 34, 110: 10}

RESERVED = (
    "let", "set", "show", "table", "plot", "check", "slider", "choice", "if", "else", "while", "for", "in", "do",
    "give", "fn", "and", "or", "not", "yes", "no", "none", "len", "keys", "text", "num", "roll", "cut", "with",
)

TWO_BYTE_SIGNS = {(61, 61): "==", (33, 61): "!=", (60, 61): "<=", (62, 61): ">=", (43, 43): "++"}

ONE_BYTE_SIGNS = {
    37: "percent", 40: "(", 41: ")", 42: "*", 43: "+", 44: ",", 45: "-", 46: ".", 47: "/", 58: ":", 59: ";",
    60: "<", 61: "=", 62: ">", 63: "?", 91: "[", 93: "]", 123: "{", 125: "}",
}

OPENING = ("(", "[", "{")
CLOSING = (")", "]", "}")


class Token:
    # kind: NAME, NUMBER, QUOTED, END, or the very reserved word or sign.
    # value: a name's bytes, a number, the bytes that a quoted text says; None for all others.
    # end: the place behind its last byte.
    def __init__(self, kind, place, end, value):
        self.kind = kind
        self.place = place
        self.end = end
        self.value = value


def check_bytes(text):
    for place, byte in enumerate(text):
        if byte != LINE_FEED and not BLANK <= byte <= LAST_ALLOWED:
            raise Fault(FORBIDDEN_BYTE, place)


def cut_tokens(text):
    tokens = []
    place = pass_over(text, 0)
    while place < len(text):
        token = cut_token(text, place)
        tokens.append(token)
        place = pass_over(text, token.end)
    return tokens


# It stands behind all tokens, at the text's length: there a text that ends too early has its fault.
def end_token(text):
    return Token("END", len(text), len(text), None)


def pass_over(text, place):
    in_comment = False
    while place < len(text):
        byte = text[place]
        if byte == LINE_FEED:
            in_comment = False
        elif byte == HASH:
            in_comment = True
        elif byte != BLANK and not in_comment:
            return place
        place += 1
    return place


def cut_token(text, place):
    byte = text[place]
    if is_digit(byte):
        return cut_number(text, place)
    if is_word_byte(byte):
        return cut_word(text, place)
    if byte == QUOTE:
        return cut_quoted(text, place)
    return cut_sign(text, place)


def is_digit(byte):
    return ZERO <= byte <= NINE


def is_word_byte(byte):
    return 65 <= byte <= 90 or 97 <= byte <= 122 or byte == UNDERSCORE or is_digit(byte)


def cut_number(text, place):
    end = place
    value = 0
    while end < len(text) and is_digit(text[end]):
        value = value * 10 + text[end] - ZERO
        end += 1
    size = end - place
    if size > LONGEST_NUMBER or (size > 1 and text[place] == ZERO):
        raise Fault(WRONG_TOKEN, place)
    return Token("NUMBER", place, end, value)


def cut_word(text, place):
    end = place
    while end < len(text) and is_word_byte(text[end]):
        end += 1
    if end - place > LONGEST_WORD:
        raise Fault(WRONG_TOKEN, place)
    word = text[place:end]
    spelled = spell_lower(word)
    if spelled in RESERVED:
        return Token(spelled, place, end, None)
    return Token("NAME", place, end, word)


# Reserved words have lower-case letters alone, so a word with any other byte needs no spelling.
def spell_lower(word):
    spelled = ""
    for byte in word:
        at = byte - LOWER_A
        if not 0 <= at < len(LOWER_LETTERS):
            return ""
        spelled += LOWER_LETTERS[at]
    return spelled


def cut_quoted(text, place):
    said = []
    at = place + 1
    while at < len(text) and text[at] != QUOTE and text[at] != LINE_FEED:
        byte = text[at]
        if byte == BACKSLASH:
            at += 1
            if at == len(text) or text[at] not in ESCAPED:
                raise Fault(WRONG_TOKEN, place)
            byte = ESCAPED[text[at]]
        said.append(byte)
        at += 1
    if at == len(text) or text[at] == LINE_FEED:
        raise Fault(WRONG_TOKEN, place)
    return Token("QUOTED", place, at + 1, said)


def cut_sign(text, place):
    pair = tuple(text[place:place + 2])
    if pair in TWO_BYTE_SIGNS:
        return Token(TWO_BYTE_SIGNS[pair], place, place + 2, None)
    if text[place] in ONE_BYTE_SIGNS:
        return Token(ONE_BYTE_SIGNS[text[place]], place, place + 1, None)
    raise Fault(WRONG_TOKEN, place)
