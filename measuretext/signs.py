"""Bytes and the signs they stand for."""

BLANK = 32
LINE_END = 10
COMMENT_BEGIN = 123
COMMENT_END = 125
MEASURE_BEGIN = 91
MEASURE_END = 93
MINUS = 45
FRACTION_SIGNS = (46, 47)
FIRST_PRINTED = 32
LAST_PRINTED = 126
MOST_SIGNS = 12

# A ? stands in the place of byte 37 too: like the ? itself, that byte belongs to no token.
PRINTED = (
    " !\"#$?&'()*+,-./0123456789:;<=>?"
    "@ABCDEFGHIJKLMNOPQRSTUVWXYZ[\\]^_"
    "`abcdefghijklmnopqrstuvwxyz{|}~"
)

TAKEN_WORDS = (
    "fn", "let", "rec", "if", "cons", "case", "pair", "fst", "snd", "fold", "root", "floor", "rest",
    "true", "false", "nil", "truth", "num", "list", "base", "unit", "def", "fun", "in", "then", "else",
    "match", "with", "and", "or", "not",
)


def is_letter(byte):
    return 97 <= byte <= 122


def is_digit(byte):
    return 48 <= byte <= 57


def is_in_word(byte):
    return is_letter(byte) or is_digit(byte) or byte == 95


def is_short_word(text):
    if text == "" or len(text) > MOST_SIGNS or not is_letter(ord(text[0])):
        return False
    return all([is_in_word(ord(sign)) for sign in text])


def is_name(text):
    return is_short_word(text) and text not in TAKEN_WORDS


def is_blank(byte):
    return byte == BLANK


def is_space(byte):
    return byte == BLANK or byte == LINE_END


def is_in_comment(byte):
    if byte == LINE_END:
        return True
    return FIRST_PRINTED <= byte <= LAST_PRINTED and byte != COMMENT_END


def is_before_measure_end(byte):
    return byte != MEASURE_END


# The first place from the given one on whose byte does not belong, or the text's end.
def run_end(text, place, belongs):
    while place < len(text) and belongs(text[place]):
        place += 1
    return place


def sign_of(byte):
    if FIRST_PRINTED <= byte <= LAST_PRINTED:
        return PRINTED[byte - FIRST_PRINTED]
    return "?"


# The bytes as a text; a byte that no token holds may come out as a ?.
def signs_of(some_bytes):
    return "".join([sign_of(byte) for byte in some_bytes])
