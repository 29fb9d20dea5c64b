"""Taking a surface text or a core text apart into its tokens."""

from measuretext.faults import Fault
from measuretext.figures import fraction_of, is_measure, measured, negated, number_end
from measuretext.signs import (
    COMMENT_BEGIN,
    COMMENT_END,
    MEASURE_BEGIN,
    MINUS,
    MOST_SIGNS,
    TAKEN_WORDS,
    is_before_measure_end,
    is_blank,
    is_digit,
    is_in_comment,
    is_in_word,
    is_letter,
    is_space,
    run_end,
    signs_of,
)

WORD_GROUP = 0
NUMBER_GROUP = 1
SIGN_GROUP = 2
SURFACE_SIGNS = (
    "->", "::", "<=", ">=", "<>",
    "|", "<", ">", "=", "+", "-", "*", "/", "^", "(", ")", "[", "]", ",",
)
CORE_SIGNS = ("(", ")", "+", "-", "*", "/", "^", "<", "=")


# A piece of text that the rules take as one.
# The kind is what the rules ask for: "name", "number", "digit", or the taken word or the sign itself.
# The content is a name's text or a number's amount.
class Token:
    def __init__(self, group, kind, begin, end, content):
        self.group = group
        self.kind = kind
        self.begin = begin
        self.end = end
        self.content = content


# The tokens of a text, taken one by one; behind them stands one of the kind "end".
class Row:
    def __init__(self, found, length):
        self.ahead = found + [Token(SIGN_GROUP, "end", length, length, "")]
        self.index = 0

    def upcoming(self):
        return self.ahead[self.index]

    def take(self):
        token = self.upcoming()
        self.index += 1
        return token

    def take_kind(self, kind):
        if self.upcoming().kind != kind:
            raise Fault(6, self.upcoming().begin)
        return self.take()


def surface_tokens(text):
    return tokens_between(text, surface_gap_end, surface_token)


def core_tokens(text):
    return tokens_between(text, core_gap_end, core_token)


# All tokens, each where the gap before it ends.
def tokens_between(text, gap_end, token_at):
    found = []
    place = gap_end(text, 0)
    while place < len(text):
        token = token_at(text, place)
        found.append(token)
        place = gap_end(text, token.end)
    return found


def core_gap_end(text, place):
    return run_end(text, place, is_blank)


def surface_gap_end(text, place):
    end = run_end(text, place, is_space)
    while end < len(text) and text[end] == COMMENT_BEGIN:
        end = run_end(text, comment_end(text, end), is_space)
    return end


def comment_end(text, begin):
    end = run_end(text, begin, is_in_comment)
    if end == len(text):
        raise Fault(2, begin)
    if text[end] != COMMENT_END:
        raise Fault(1, end)
    return end + 1


def surface_token(text, begin):
    if is_letter(text[begin]):
        return word_token(text, begin)
    if is_digit(text[begin]):
        return number_token(text, begin, begin)
    return sign_token(text, begin, SURFACE_SIGNS)


def core_token(text, begin):
    if is_letter(text[begin]):
        return word_token(text, begin)
    digits = begin + 1 if text[begin] == MINUS else begin
    if digits < len(text) and is_digit(text[digits]):
        return number_token(text, begin, digits)
    return sign_token(text, begin, CORE_SIGNS)


def word_token(text, begin):
    end = run_end(text, begin, is_in_word)
    if end - begin > MOST_SIGNS:
        raise Fault(3, begin)
    word = signs_of(text[begin:end])
    kind = word if word in TAKEN_WORDS else "name"
    return Token(WORD_GROUP, kind, begin, end, word)


# The number whose digits begin at the second place; between the two stands its - if it has one.
def number_token(text, begin, digits):
    end = number_end(text, digits)
    amount = fraction_of(signs_of(text[digits:end]))
    if amount is None:
        raise Fault(4, begin)
    if end < len(text) and text[end] == MEASURE_BEGIN:
        measure = measure_at(text, end)
        amount = measured(amount, measure)
        end = end + len(measure) + 2
    if begin < digits:
        amount = negated(amount)
    # A number of one byte has neither a second row of digits nor a measure.
    kind = "digit" if end - digits == 1 else "number"
    return Token(NUMBER_GROUP, kind, begin, end, amount)


# The measure text behind the [ at the given place.
def measure_at(text, begin):
    end = run_end(text, begin, is_before_measure_end)
    measure = signs_of(text[begin + 1:end])
    if end == len(text) or not is_measure(measure):
        raise Fault(5, begin)
    return measure


# The longest of the given signs that stands at the given place.
def sign_token(text, begin, signs):
    sign = signs_of(text[begin:begin + 2])
    if sign not in signs:
        sign = sign[:1]
    if sign not in signs:
        raise Fault(1, begin)
    return Token(SIGN_GROUP, sign, begin, begin + len(sign), sign)
