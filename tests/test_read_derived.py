"""Texts made by the rules at random, each together with the term that it says and the place of each node."""

import random
import unittest

from helper import data
from measuretext import terms

NAMES = ["x", "y", "f", "lets", "a_1", "abcdefghijkl"]
NUMBERS = {"0": "0", "2": "2", "4/6": "2/3", "1.50[m]": "3/2[m]", "0[m/s^-2]": "0[m/s^-2]", "10": "10"}
GAPS = [" ", " ", " ", "  ", "\n", " {a - (} ", "{}"]


class Node:
    def __init__(self, pieces, begin):
        self.pieces = pieces
        self.begin = begin

    def parts(self):
        return [piece for piece in self.pieces if isinstance(piece, Node)]

    def text(self):
        if len(self.pieces) == 1:
            return self.pieces[0]
        return "(" + " ".join(piece.text() if isinstance(piece, Node) else piece for piece in self.pieces) + ")"


class Derivation:
    """One text by the rules; a node's place is the number of its first token until the text is laid out."""

    def __init__(self, seed, size):
        self.source = random.Random(seed)
        self.size = size
        self.spelled = []
        self.within = 0
        self.furthest = self.source.choice([4, 8, 14, 41])
        self.too_far = None
        self.term = self.expression()

    def more(self, part):
        """Whether to go on: by chance, and only while the text is to grow."""
        self.size -= 1
        return self.size > 0 and self.source.random() < part

    def nest(self, part):
        return self.within < self.furthest and self.more(part)

    def put(self, *spellings):
        self.spelled.extend(spellings)

    def name(self):
        self.put(self.source.choice(NAMES))
        return self.spelled[-1]

    def names(self):
        found = []
        while self.more(0.4):
            found.append(self.name())
        return found

    def expression(self):
        if self.within == 40 and self.too_far is None:
            self.too_far = len(self.spelled)
        self.within += 1
        forms = [self.fun, self.rec, self.let, self.let_rec, self.choice, self.match]
        node = self.source.choice(forms)() if self.nest(0.45) else self.either()
        self.within -= 1
        return node

    def functions(self, names, body, begin):
        for name in reversed(names):
            body = Node(["fn", name, body], begin)
        return body

    def fun(self):
        begin = len(self.spelled)
        self.put("fun")
        names = [self.name()] + self.names()
        self.put("->")
        return self.functions(names, self.expression(), begin)

    def rec(self):
        begin = len(self.spelled)
        self.put("rec")
        names = [self.name(), self.name()] + self.names()
        self.put("->")
        return Node(["rec", names[0], names[1], self.functions(names[2:], self.expression(), begin)], begin)

    def let(self):
        begin = len(self.spelled)
        self.put("let")
        names = [self.name()] + self.names()
        self.put("=")
        value = self.functions(names[1:], self.expression(), begin)
        self.put("in")
        return Node(["let", names[0], value, self.expression()], begin)

    def let_rec(self):
        begin = len(self.spelled)
        self.put("let", "rec")
        names = [self.name(), self.name()] + self.names()
        self.put("=")
        body = self.functions(names[2:], self.expression(), begin)
        self.put("in")
        return Node(["let", names[0], Node(["rec", names[0], names[1], body], begin), self.expression()], begin)

    def choice(self):
        begin = len(self.spelled)
        self.put("if")
        condition = self.expression()
        self.put("then")
        first = self.expression()
        self.put("else")
        return Node(["if", condition, first, self.expression()], begin)

    def match(self):
        begin = len(self.spelled)
        self.put("match")
        row = self.expression()
        self.put("with", "[", "]", "->")
        empty = self.expression()
        self.put("|")
        head = self.name()
        self.put("::")
        tail = self.name()
        self.put("->")
        return Node(["case", row, empty, head, tail, self.expression()], begin)

    def either(self):
        begin = len(self.spelled)
        node = self.both()
        if self.more(0.15):
            self.put("or")
            node = Node(["if", node, Node(["true"], begin), self.either()], begin)
        return node

    def both(self):
        begin = len(self.spelled)
        node = self.negation()
        if self.more(0.15):
            self.put("and")
            node = Node(["if", node, self.both(), Node(["false"], begin)], begin)
        return node

    def opposite(self, node, begin):
        return Node(["if", node, Node(["false"], begin), Node(["true"], begin)], begin)

    def negation(self):
        begin = len(self.spelled)
        if not self.more(0.15):
            return self.compare()
        self.put("not")
        return self.opposite(self.negation(), begin)

    def compare(self):
        begin = len(self.spelled)
        first = self.consing()
        if not self.more(0.3):
            return first
        sign = self.source.choice(["<", "=", ">", "<=", ">=", "<>"])
        self.put(sign)
        second = self.consing()
        return {
            "<": lambda: Node(["<", first, second], begin),
            "=": lambda: Node(["=", first, second], begin),
            ">": lambda: Node(["<", second, first], begin),
            "<=": lambda: self.opposite(Node(["<", second, first], begin), begin),
            ">=": lambda: self.opposite(Node(["<", first, second], begin), begin),
            "<>": lambda: self.opposite(Node(["=", first, second], begin), begin),
        }[sign]()

    def consing(self):
        begin = len(self.spelled)
        node = self.total()
        if self.more(0.2):
            self.put("::")
            node = Node(["cons", node, self.consing()], begin)
        return node

    def total(self):
        return self.rounds(self.product, ["+", "-"])

    def product(self):
        return self.rounds(self.power, ["*", "/"])

    def rounds(self, rule, signs):
        begin = len(self.spelled)
        node = rule()
        while self.more(0.25):
            sign = self.source.choice(signs)
            self.put(sign)
            node = Node([sign, node, rule()], begin)
        return node

    def power(self):
        begin = len(self.spelled)
        node = self.apply()
        while self.more(0.15):
            digit = self.source.choice("0123456789")
            minus = self.source.random() < 0.5
            self.put(*(["^", "-", digit] if minus else ["^", digit]))
            node = Node(["^", node, "-" + digit if minus and digit != "0" else digit], begin)
        return node

    def apply(self):
        begin = len(self.spelled)
        node = self.head()
        while self.more(0.25):
            node = Node([node, self.atom()], begin)
        return node

    def head(self):
        begin = len(self.spelled)
        if not self.more(0.25):
            return self.atom()
        word = self.source.choice(["-", "fst", "snd", "root", "floor", "rest", "fold"])
        self.put(word)
        if word == "-":
            spelling = self.source.choice(sorted(NUMBERS))
            self.put(spelling)
            number = NUMBERS[spelling]
            return Node([number if number.startswith("0") else "-" + number], begin)
        count = {"floor": 2, "rest": 2, "fold": 3}.get(word, 1)
        return Node([word] + [self.atom() for part in range(count)], begin)

    def atom(self):
        begin = len(self.spelled)
        if self.nest(0.5):
            return self.bracket(begin) if self.source.random() < 0.6 else self.row(begin)
        kind = self.source.randrange(4)
        if kind == 0:
            self.put(self.source.choice(sorted(NUMBERS)))
            return Node([NUMBERS[self.spelled[-1]]], begin)
        if kind == 1:
            self.put(self.source.choice(["true", "false"]))
            return Node([self.spelled[-1]], begin)
        return Node([self.name()], begin)

    def expressions(self):
        found = [self.expression()]
        while self.more(0.35):
            self.put(",")
            found.append(self.expression())
        return found

    def bracket(self, begin):
        self.put("(")
        found = self.expressions()
        self.put(")")
        node = found.pop()
        while found:
            node = Node(["pair", found.pop(), node], begin)
        return node

    def row(self, begin):
        self.put("[")
        found = self.expressions() if self.more(0.8) else []
        self.put("]")
        node = Node(["nil"], begin)
        while found:
            node = Node(["cons", found.pop(), node], begin)
        return node

    def laid_out(self):
        """The text, and the place of each of its tokens."""
        text, places = "", []
        for spelling in self.spelled:
            text += self.source.choice(GAPS)
            places.append(len(text))
            text += spelling
        return text, places


def expected(derivation, text, places):
    if len(text) > 2000:
        return [-1]
    if derivation.too_far is not None:
        return [7, places[derivation.too_far]]
    todo, number = [(derivation.term, 1)], 0
    while todo:
        node, depth = todo.pop()
        if depth == 41:
            return [8, places[node.begin]]
        if number == 300:
            return [9, places[node.begin]]
        number += 1
        todo.extend((part, depth + 1) for part in reversed(node.parts()))
    core = derivation.term.text()
    return [0] + data(core) if len(core) <= 2000 else [-4]


class Derived(unittest.TestCase):
    def test_read_says_the_term(self):
        met = {}
        for seed in range(3000):
            derivation = Derivation(seed, [40, 150, 300, 500, 700][seed % 5])
            text, places = derivation.laid_out()
            answer = expected(derivation, text, places)
            self.assertEqual(terms.read(data(text)), answer, (seed, text))
            met[answer[0]] = met.get(answer[0], 0) + 1
        for first in (0, 7, 8, 9):
            self.assertGreater(met.get(first, 0), 50, met)


if __name__ == "__main__":
    unittest.main()
