"""Core texts that are right, and many more that are wrong, held against another reader by the document's words."""

import fractions
import random
import re
import unittest

from helper import CORE_FAULTS, TAKEN, core, core_tree
from model import SHAPES, core_of, made_up, many_terms

WORD = re.compile("[a-z][a-z0-9_]*")
NUMBER = re.compile("-?([0-9]+)(?:([/.])([0-9]+))?")
FACTOR = r"(?:1|[a-z][a-z0-9_]{0,11}(?:\^-?[0-9]{1,2})?)"
MEASURE = re.compile(FACTOR + "(?:[./]" + FACTOR + ")*")
PIECES = (
    TAKEN + "( ( ( ) ) ) + - * / ^ < = x y f v0 abcdefghijkl 1 -1 3/4 -0.50 2[m] 9 10 -9".split(" ")
    + "abcdefghijklm 1/0 5[ 5[m 5[M] ? [ ] { > , . _ \n".split(" ") + [" ", "  ", ""]
)


class Told(Exception):
    """A fault's kind and place."""


def spelled(match):
    """The number as it's shown, or None if it isn't good."""
    over, sign, under = match.groups()
    if max(len(over), len(under or "")) > 12 or (sign == "/" and int(under) == 0):
        return None
    value = fractions.Fraction(match.group().lstrip("-"))
    if max(value.numerator, value.denominator) >= 10 ** 12:
        return None
    return str(-value if match.group()[0] == "-" else value)


class Reading:
    def __init__(self, text):
        self.text = text
        self.tokens = []
        self.begins = []
        self.split()
        self.tokens.append(("end", "", len(text)))
        self.shown = self.term(1)
        self.take("end")
        if len(self.begins) > 300:
            raise Told(9, self.begins[300])

    def split(self):
        place = 0
        while place < len(self.text):
            if self.text[place] != " ":
                place = self.token(place)
            else:
                place += 1

    def token(self, place):
        word, number = WORD.match(self.text, place), NUMBER.match(self.text, place)
        if word:
            if len(word.group()) > 12:
                raise Told(3, place)
            kind = word.group() if word.group() in TAKEN else "name"
            self.tokens.append((kind, word.group(), place))
            return word.end()
        if number:
            return self.number(place, number)
        if self.text[place] not in "()+-*/^<=":
            raise Told(1, place)
        self.tokens.append((self.text[place], self.text[place], place))
        return place + 1

    def number(self, place, match):
        shown = spelled(match)
        if shown is None:
            raise Told(4, place)
        end = match.end()
        kind = "digit" if re.fullmatch("-?[0-9]", match.group()) else "number"
        if self.text[end:end + 1] == "[":
            close = self.text.find("]", end)
            if close < 0 or not MEASURE.fullmatch(self.text, end + 1, close):
                raise Told(5, end)
            shown += self.text[end:close + 1]
            kind, end = "number", close + 1
        self.tokens.append((kind, shown, place))
        return end

    def take(self, *kinds):
        kind, shown, place = self.tokens[0]
        if kind not in kinds:
            raise Told(6, place)
        return self.tokens.pop(0)[1]

    def term(self, depth):
        if depth == 41:
            raise Told(8, self.tokens[0][2])
        self.begins.append(self.tokens[0][2])
        if self.tokens[0][0] != "(":
            return self.take("name", "number", "digit", "true", "false", "nil")
        self.take("(")
        form = self.take(*SHAPES) if self.tokens[0][0] in SHAPES else "apply"
        found = [] if form == "apply" else [form]
        for sign in SHAPES[form]:
            if sign in "pb":
                found.append(self.term(depth + 1))
            else:
                found.append(self.take("name" if sign == "n" else "digit"))
        self.take(")")
        return "(" + " ".join(found) + ")"


def expected(text):
    if len(text) > 2000:
        return [-1]
    try:
        shown = Reading(text).shown
    except Told as told:
        return list(told.args)
    return shown if len(shown) <= 2000 else [-4]


class Wrong(unittest.TestCase):
    def test_the_other_reader(self):
        for text, found in CORE_FAULTS.items():
            self.assertEqual(expected(text), found, text)

    def test_texts_with_pieces_put_in_or_taken_out(self):
        source = random.Random(14)
        met = {}
        for term in many_terms(600, seed=14, most=40):
            tokens = re.findall(r"[()]|[^() ]+", core_of(term))
            for step in range(6):
                number = source.randrange(len(tokens) + 1)
                tokens[number:number + source.randrange(2)] = source.choices(PIECES, k=source.randrange(3))
                text = source.choice(["", " "]).join(tokens)
                if step % 2:
                    text = " ".join(tokens)
                self.hold(text, met)
        for kind in (0, 1, 3, 4, 5, 6):
            self.assertGreater(met.get(kind, 0), 20, met)

    def test_texts_cut_off(self):
        source = random.Random(15)
        met = {}
        for term in many_terms(400, seed=15):
            text = core_of(term)
            self.hold(text[:source.randrange(len(text) + 1)], met)
            self.hold(text[source.randrange(len(text)):], met)

    def test_great_and_deep_terms(self):
        source = random.Random(16)
        met = {}
        for number in range(150):
            term = made_up(source, source.randrange(300, 900), 60, leaves=["x", "1", "nil"])
            for step in range(source.choice([0, 0, 20, 40])):
                form = source.choice(["fst", "apply", "fn", "^"])
                term = {"fst": ("fst", term), "apply": ("apply", "f", term), "fn": ("fn", "x", term),
                        "^": ("^", term, "2")}[form]
            text = core_of(term).replace(" (", "(").replace(") ", ")")
            self.hold(text, met)
            self.hold(text + source.choice(["", " x", ")"]), met)
            self.hold(text[:-1], met)
        for kind in (0, 6, 8, 9):
            self.assertGreater(met.get(kind, 0), 20, met)
        self.hold(core_tree(151), met)

    def hold(self, text, met):
        found = expected(text)
        self.assertEqual(core(text), found, text)
        kind = 0 if isinstance(found, str) else found[0]
        met[kind] = met.get(kind, 0) + 1


if __name__ == "__main__":
    unittest.main()
