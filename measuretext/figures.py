"""Number texts, the exact fractions that they mean, and measures."""

from measuretext.signs import FRACTION_SIGNS, is_digit, is_short_word, run_end

MOST_DIGITS = 12
FIRST_TOO_GREAT = 1000000000000
MOST_POWER_DIGITS = 2


# A fraction in lowest terms with the text of its measure, which is empty if it has none.
class Amount:
    def __init__(self, over, under, measure):
        self.over = over
        self.under = under
        self.measure = measure


# Where the number text ends that begins with the digit at the given place.
def number_end(text, begin):
    end = run_end(text, begin, is_digit)
    if end + 1 < len(text) and text[end] in FRACTION_SIGNS and is_digit(text[end + 1]):
        end = run_end(text, end + 1, is_digit)
    return end


# The amount, without measure, that a number text means, or None if it is not good.
def fraction_of(spelling):
    divided = "/" in spelling
    rows = spelling.split("/") if divided else spelling.split(".")
    if max([len(row) for row in rows]) > MOST_DIGITS:
        return None
    if divided:
        return lowest(int(rows[0]), int(rows[1]))
    if len(rows) == 2:
        return lowest(int(rows[0] + rows[1]), int("1" + "0" * len(rows[1])))
    return lowest(int(rows[0]), 1)


def lowest(over, under):
    if under == 0:
        return None
    divisor = common_divisor(over, under)
    over = over // divisor
    under = under // divisor
    if over >= FIRST_TOO_GREAT or under >= FIRST_TOO_GREAT:
        return None
    return Amount(over, under, "")


def common_divisor(first, second):
    while second != 0:
        remainder = first % second
        first = second
        second = remainder
    return first


def is_measure(measure):
    for factor in measure.replace("/", ".").split("."):
        if not is_factor(factor):
            return False
    return True


def is_factor(factor):
    if factor == "1":
        return True
    if "^" not in factor:
        return is_short_word(factor)
    halves = factor.partition("^")
    return is_short_word(halves[0]) and is_power(halves[2])


def is_power(power):
    digits = power[1:] if power.startswith("-") else power
    if digits == "" or len(digits) > MOST_POWER_DIGITS:
        return False
    return all([is_digit(ord(sign)) for sign in digits])


def measured(amount, measure):
    return Amount(amount.over, amount.under, measure)


def negated(amount):
    return Amount(-amount.over, amount.under, amount.measure)


# The amount as core text shows it.
def amount_text(amount):
    shown = str(amount.over)
    if amount.under != 1:
        shown = shown + "/" + str(amount.under)
    if amount.measure != "":
        shown = shown + "[" + amount.measure + "]"
    return shown
