"""Taking a surface text apart into its tokens."""

from measuretext.faults import Fault
from measuretext.figures import fraction_of, is_measure, measured, number_end
from measuretext.signs import (
    BLANK,
    COMMENT_BEGIN,
    COMMENT_END,
    LINE_END,
    MEASURE_BEGIN,
    MOST_SIGNS,
    TAKEN_WORDS,
    is_before_measure_end,
    is_digit,
    is_in_comment,
    is_in_word,
    is_letter,
    run_end,
    signs_of,
)

WORD_GROUP = 0
NUMBER_GROUP = 1
SIGN_GROUP = 2
DOUBLE_SIGNS = ("->", "::", "<=", ">=", "<>")
SINGLE_SIGNS = ("|", "<", ">", "=", "+", "-", "*", "/", "^", "(", ")", "[", "]", ",")


# A piece of text that the grammar takes as one.
# The kind is what the grammar asks for: "name", "number", "digit", or the taken word or the sign itself.
# The content is a name's text or a number's amount.
class Token:
    def __init__(self, group, kind, begin, end, content):
        self.group = group
        self.kind = kind
        self.begin = begin
        self.end = end
        self.content = content


def surface_tokens(text):
    found = []
    place = 0
    while place < len(text):
        if text[place] == BLANK or text[place] == LINE_END:
            place += 1
        elif text[place] == COMMENT_BEGIN:
            place = comment_end(text, place)
        else:
            token = token_at(text, place)
            found.append(token)
            place = token.end
    return found


def comment_end(text, begin):
    end = run_end(text, begin, is_in_comment)
    if end == len(text):
        raise Fault(2, begin)
    if text[end] != COMMENT_END:
        raise Fault(1, end)
    return end + 1


def token_at(text, begin):
    if is_letter(text[begin]):
        return word_token(text, begin)
    if is_digit(text[begin]):
        return number_token(text, begin)
    return sign_token(text, begin)


def word_token(text, begin):
    end = run_end(text, begin, is_in_word)
    if end - begin > MOST_SIGNS:
        raise Fault(3, begin)
    word = signs_of(text[begin:end])
    kind = word if word in TAKEN_WORDS else "name"
    return Token(WORD_GROUP, kind, begin, end, word)


def number_token(text, begin):
    end = number_end(text, begin)
    amount = fraction_of(signs_of(text[begin:end]))
    if amount is None:
        raise Fault(4, begin)
    if end < len(text) and text[end] == MEASURE_BEGIN:
        measure = measure_at(text, end)
        amount = measured(amount, measure)
        end = end + len(measure) + 2
    # A number of one byte has neither a second row of digits nor a measure.
    kind = "digit" if end - begin == 1 else "number"
    return Token(NUMBER_GROUP, kind, begin, end, amount)


# The measure text behind the [ at the given place.
def measure_at(text, begin):
    end = run_end(text, begin, is_before_measure_end)
    measure = signs_of(text[begin + 1:end])
    if end == len(text) or not is_measure(measure):
        raise Fault(5, begin)
    return measure


def sign_token(text, begin):
    sign = signs_of(text[begin:begin + 2])
    if sign not in DOUBLE_SIGNS:
        sign = sign[:1]
        if sign not in SINGLE_SIGNS:
            raise Fault(1, begin)
    return Token(SIGN_GROUP, sign, begin, begin + len(sign), sign)
