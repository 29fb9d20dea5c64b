"""Surface texts made by the rules at random, each together with the term that it says and the stretch of each node."""

import random

NAMES = ["x", "y", "f", "lets", "a_1", "abcdefghijkl"]
NUMBERS = {"0": "0", "2": "2", "4/6": "2/3", "1.50[m]": "3/2[m]", "0[m/s^-2]": "0[m/s^-2]", "10": "10"}
GAPS = [" ", " ", " ", "  ", "\n", " {a - (} ", "{}"]


class Use:
    """One use of a rule, by the numbers of its first and its last token."""

    def __init__(self, begin):
        self.begin = begin
        self.end = None


class Node:
    def __init__(self, pieces, use):
        self.pieces = pieces
        self.use = use

    def parts(self):
        return [piece for piece in self.pieces if isinstance(piece, Node)]

    def term(self):
        """As model.py has it."""
        if len(self.pieces) == 1:
            return self.pieces[0]
        found = tuple(piece.term() if isinstance(piece, Node) else piece for piece in self.pieces)
        return found if isinstance(self.pieces[0], str) else ("apply", *found)


class Derivation:
    """One text by the rules."""

    def __init__(self, seed, size):
        self.source = random.Random(seed)
        self.size = size
        self.spelled = []
        self.within = 0
        self.furthest = self.source.choice([4, 8, 14, 41])
        self.too_far = None
        self.node = self.expression()
        self.text, self.places = self.laid_out()

    def more(self, part):
        """Whether to go on: by chance, and only while the text is to grow."""
        self.size -= 1
        return self.size > 0 and self.source.random() < part

    def nest(self, part):
        return self.within < self.furthest and self.more(part)

    def put(self, *spellings):
        self.spelled.extend(spellings)

    def begun(self):
        return Use(len(self.spelled))

    def ended(self, node, use):
        """The node, now that the last token of the use that made it is there."""
        use.end = len(self.spelled) - 1
        return node

    def name(self):
        self.put(self.source.choice(NAMES))
        return self.spelled[-1]

    def names(self):
        found = []
        while self.more(0.4):
            found.append(self.name())
        return found

    def expression(self):
        if self.within == 40 and self.too_far is None:
            self.too_far = len(self.spelled)
        self.within += 1
        if self.nest(0.45):
            use = self.begun()
            forms = [self.fun, self.rec, self.let, self.let_rec, self.choice, self.match]
            node = self.ended(self.source.choice(forms)(use), use)
        else:
            node = self.either()
        self.within -= 1
        return node

    def functions(self, names, body, use):
        for name in reversed(names):
            body = Node(["fn", name, body], use)
        return body

    def fun(self, use):
        self.put("fun")
        names = [self.name()] + self.names()
        self.put("->")
        return self.functions(names, self.expression(), use)

    def rec(self, use):
        self.put("rec")
        names = [self.name(), self.name()] + self.names()
        self.put("->")
        return Node(["rec", names[0], names[1], self.functions(names[2:], self.expression(), use)], use)

    def let(self, use):
        self.put("let")
        names = [self.name()] + self.names()
        self.put("=")
        value = self.functions(names[1:], self.expression(), use)
        self.put("in")
        return Node(["let", names[0], value, self.expression()], use)

    def let_rec(self, use):
        self.put("let", "rec")
        names = [self.name(), self.name()] + self.names()
        self.put("=")
        body = self.functions(names[2:], self.expression(), use)
        self.put("in")
        return Node(["let", names[0], Node(["rec", names[0], names[1], body], use), self.expression()], use)

    def choice(self, use):
        self.put("if")
        condition = self.expression()
        self.put("then")
        first = self.expression()
        self.put("else")
        return Node(["if", condition, first, self.expression()], use)

    def match(self, use):
        self.put("match")
        row = self.expression()
        self.put("with", "[", "]", "->")
        empty = self.expression()
        self.put("|")
        head = self.name()
        self.put("::")
        tail = self.name()
        self.put("->")
        return Node(["case", row, empty, head, tail, self.expression()], use)

    def either(self):
        use = self.begun()
        node = self.both()
        if not self.more(0.15):
            return node
        self.put("or")
        return self.ended(Node(["if", node, Node(["true"], use), self.either()], use), use)

    def both(self):
        use = self.begun()
        node = self.negation()
        if not self.more(0.15):
            return node
        self.put("and")
        return self.ended(Node(["if", node, self.both(), Node(["false"], use)], use), use)

    def opposite(self, node, use):
        return Node(["if", node, Node(["false"], use), Node(["true"], use)], use)

    def negation(self):
        use = self.begun()
        if not self.more(0.15):
            return self.compare()
        self.put("not")
        return self.ended(self.opposite(self.negation(), use), use)

    def compare(self):
        use = self.begun()
        first = self.consing()
        if not self.more(0.3):
            return first
        sign = self.source.choice(["<", "=", ">", "<=", ">=", "<>"])
        self.put(sign)
        second = self.consing()
        node = {
            "<": lambda: Node(["<", first, second], use),
            "=": lambda: Node(["=", first, second], use),
            ">": lambda: Node(["<", second, first], use),
            "<=": lambda: self.opposite(Node(["<", second, first], use), use),
            ">=": lambda: self.opposite(Node(["<", first, second], use), use),
            "<>": lambda: self.opposite(Node(["=", first, second], use), use),
        }[sign]()
        return self.ended(node, use)

    def consing(self):
        use = self.begun()
        node = self.total()
        if not self.more(0.2):
            return node
        self.put("::")
        return self.ended(Node(["cons", node, self.consing()], use), use)

    def total(self):
        return self.rounds(self.product, ["+", "-"])

    def product(self):
        return self.rounds(self.power, ["*", "/"])

    def rounds(self, rule, signs):
        begin = len(self.spelled)
        node = rule()
        while self.more(0.25):
            use = Use(begin)
            sign = self.source.choice(signs)
            self.put(sign)
            node = self.ended(Node([sign, node, rule()], use), use)
        return node

    def power(self):
        begin = len(self.spelled)
        node = self.apply()
        while self.more(0.15):
            use = Use(begin)
            digit = self.source.choice("0123456789")
            minus = self.source.random() < 0.5
            self.put(*(["^", "-", digit] if minus else ["^", digit]))
            node = self.ended(Node(["^", node, "-" + digit if minus and digit != "0" else digit], use), use)
        return node

    def apply(self):
        begin = len(self.spelled)
        node = self.head()
        while self.more(0.25):
            use = Use(begin)
            node = self.ended(Node([node, self.atom()], use), use)
        return node

    def head(self):
        if not self.more(0.25):
            return self.atom()
        use = self.begun()
        word = self.source.choice(["-", "fst", "snd", "root", "floor", "rest", "fold"])
        self.put(word)
        if word == "-":
            spelling = self.source.choice(sorted(NUMBERS))
            self.put(spelling)
            number = NUMBERS[spelling]
            return self.ended(Node([number if number.startswith("0") else "-" + number], use), use)
        count = {"floor": 2, "rest": 2, "fold": 3}.get(word, 1)
        return self.ended(Node([word] + [self.atom() for part in range(count)], use), use)

    def atom(self):
        use = self.begun()
        if self.nest(0.5):
            node = self.bracket(use) if self.source.random() < 0.6 else self.row(use)
        else:
            node = Node([self.leaf()], use)
        return self.ended(node, use)

    def leaf(self):
        kind = self.source.randrange(4)
        if kind == 0:
            self.put(self.source.choice(sorted(NUMBERS)))
            return NUMBERS[self.spelled[-1]]
        if kind == 1:
            self.put(self.source.choice(["true", "false"]))
            return self.spelled[-1]
        return self.name()

    def expressions(self):
        found = [self.expression()]
        while self.more(0.35):
            self.put(",")
            found.append(self.expression())
        return found

    def bracket(self, use):
        self.put("(")
        found = self.expressions()
        self.put(")")
        node = found.pop()
        while found:
            node = Node(["pair", found.pop(), node], use)
        return node

    def row(self, use):
        self.put("[")
        found = self.expressions() if self.more(0.8) else []
        self.put("]")
        node = Node(["nil"], use)
        while found:
            node = Node(["cons", found.pop(), node], use)
        return node

    def laid_out(self):
        """The text, and the place of each of its tokens."""
        text, places = "", []
        for spelling in self.spelled:
            text += self.source.choice(GAPS)
            places.append(len(text))
            text += spelling
        return text + self.source.choice(["", " ", "\n{end}"]), places

    def stretches(self):
        """The first byte, the number of bytes and the depth of each node, in the order of their numbers."""
        todo, found = [(self.node, 1)], []
        while todo:
            node, depth = todo.pop()
            begin, last = self.places[node.use.begin], node.use.end
            found.append((begin, self.places[last] + len(self.spelled[last]) - begin, depth))
            todo.extend((part, depth + 1) for part in reversed(node.parts()))
        return found

    def fault(self):
        """What each call with this text answers, or None if the text is good."""
        if len(self.text) > 2000:
            return [-1]
        if self.too_far is not None:
            return [7, self.places[self.too_far]]
        for number, (begin, length, depth) in enumerate(self.stretches()):
            if depth == 41:
                return [8, begin]
            if number == 300:
                return [9, begin]
        return None


def many_derivations(count):
    return [Derivation(seed, [40, 150, 300, 500, 700][seed % 5]) for seed in range(count)]
