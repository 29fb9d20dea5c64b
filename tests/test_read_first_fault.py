"""The place of a fault 6, held against its definition: the first token with which no text by the rules begins.

The rules stand here once more, as the document writes them but for {..} and [..], which have rules of their own
(so that few ways are open at a time), and are followed in all ways at once.
"""

import random
import unittest

from helper import TAKEN, read

GRAMMAR = """
expression = fun name NAMES -> expression
expression = rec name name NAMES -> expression
expression = let name NAMES = expression in expression
expression = let rec name name NAMES = expression in expression
expression = if expression then expression else expression
expression = match expression with [ ] -> expression | name :: name -> expression
expression = OR
NAMES =
NAMES = name NAMES
OR = AND ORS
ORS =
ORS = or OR
AND = NOT ANDS
ANDS =
ANDS = and AND
NOT = not NOT
NOT = COMPARE
COMPARE = CONSING COMPARES
COMPARES =
COMPARES = SIGN CONSING
SIGN = <
SIGN = =
SIGN = >
SIGN = <=
SIGN = >=
SIGN = <>
CONSING = SUM CONSINGS
CONSINGS =
CONSINGS = :: CONSING
SUM = PRODUCT SUMS
SUMS =
SUMS = + PRODUCT SUMS
SUMS = - PRODUCT SUMS
PRODUCT = POWER PRODUCTS
PRODUCTS =
PRODUCTS = * POWER PRODUCTS
PRODUCTS = / POWER PRODUCTS
POWER = APPLY POWERS
POWERS =
POWERS = ^ digit POWERS
POWERS = ^ - digit POWERS
APPLY = HEAD ATOMS
ATOMS =
ATOMS = ATOM ATOMS
HEAD = - NUMBER
HEAD = fst ATOM
HEAD = snd ATOM
HEAD = root ATOM
HEAD = floor ATOM ATOM
HEAD = rest ATOM ATOM
HEAD = fold ATOM ATOM ATOM
HEAD = ATOM
NUMBER = digit
NUMBER = number
ATOM = name
ATOM = NUMBER
ATOM = true
ATOM = false
ATOM = ( expression MORE )
ATOM = [ ]
ATOM = [ expression MORE ]
MORE =
MORE = , expression MORE
"""

SIGNS = "| < > = + - * / ^ ( ) [ ] , -> :: <= >= <>".split()
SPELLINGS = [("name", "x"), ("digit", "2"), ("number", "2/3"), ("number", "7[m]"), ("number", "10")]
VOCABULARY = [(word, word) for word in TAKEN] + [(sign, sign) for sign in SIGNS] + SPELLINGS


def ways():
    found = {}
    for line in GRAMMAR.strip().split("\n"):
        parts = line.split(" ")
        found.setdefault(parts[0], []).append(tuple(part for part in parts[2:] if part))
    return found


WAYS = ways()


def opened(stacks):
    """All stacks that the given ones may turn to before a token is taken."""
    seen = set()
    todo = list(stacks)
    while todo:
        stack = todo.pop()
        if stack in seen:
            continue
        seen.add(stack)
        if stack and stack[0] in WAYS:
            todo.extend(way + stack[1:] for way in WAYS[stack[0]])
    return {stack for stack in seen if not stack or stack[0] not in WAYS}


def after(stacks, kind):
    return opened(stack[1:] for stack in stacks if stack and stack[0] == kind)


class FirstFault(unittest.TestCase):
    def look_at(self, prefix, stacks):
        """Holds every token that may or may not come next against the definition; gives back those that may."""
        whole = read(prefix)
        if () in stacks:
            self.assertNotEqual(whole[0], 6, prefix)
        else:
            self.assertEqual(whole, [6, len(prefix)], prefix)
        good = []
        for kind, spelling in VOCABULARY:
            further = after(stacks, kind)
            text = prefix + spelling + " "
            if further:
                good.append((text, further))
            else:
                self.assertEqual(read(text + ")"), [6, len(prefix)], text)
        return good

    def test_all_short_texts(self):
        level = [("", opened([("expression",)]))]
        for length in range(3):
            following = []
            for prefix, stacks in level:
                following.extend(self.look_at(prefix, stacks))
            level = following

    def test_longer_texts(self):
        source = random.Random(5)
        for text in range(60):
            prefix, stacks = "", opened([("expression",)])
            for step in range(30):
                good = self.look_at(prefix, stacks)
                if not good:
                    break
                prefix, stacks = source.choice(good)


if __name__ == "__main__":
    unittest.main()
