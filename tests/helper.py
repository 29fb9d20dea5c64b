"""Texts as the calls take them, answers as people read them, and terms made up at random.

A made-up term is a text (a name, a number, true, false, nil) or a tuple in the order of core text, with its form's
word first; that of an application is "apply".
"""

import random

from measuretext import terms

TAKEN = (
    "fn let rec if cons case pair fst snd fold root floor rest true false nil truth num list base unit def fun in "
    "then else match with and or not"
).split()

# n stands for a name that is bound, p for a part, b for a part in which the names are bound, d for an exponent.
SHAPES = {
    "fn": "nb", "rec": "nnb", "let": "npb", "if": "ppp", "apply": "pp", "pair": "pp", "fst": "p", "snd": "p",
    "cons": "pp", "case": "ppnnb", "fold": "ppp", "+": "pp", "-": "pp", "*": "pp", "/": "pp", "<": "pp", "=": "pp",
    "floor": "pp", "rest": "pp", "root": "p", "^": "pd",
}
NAMES = ["x", "y", "f", "v0", "v1", "v2", "v10", "lets", "abcdefghijkl"]
LEAVES = NAMES + ["true", "false", "nil", "nil", "nil", "0", "3", "-3", "3/4", "-1/2", "5[m]", "-7[m/s^-2]", "0[km]"]


def data(text):
    return [ord(sign) for sign in text]


def said(answer):
    """The text that was answered, or the numbers of a fault or refusal."""
    if answer[0] != 0:
        return answer
    return "".join(chr(byte) for byte in answer[1:])


def read(text):
    return said(terms.read(data(text)))


def core(text):
    return said(terms.core(data(text)))


def show(text):
    return said(terms.show(data(text)))


def tokens(text):
    """A list of (sort, place, length) if the text has no fault, else the answer's numbers."""
    answer = terms.tokens(data(text))
    if answer[0] != 0:
        return answer
    rest = answer[1:]
    return [tuple(rest[at:at + 3]) for at in range(0, len(rest), 3)]


def tree(leaves, leaf="x"):
    """A surface text of a sum as flat as can be, with so many leaves: one node less than twice as many."""
    if leaves == 1:
        return leaf
    half = leaves // 2
    return "(" + tree(leaves - half, leaf) + "+" + tree(half, leaf) + ")"


def core_tree(leaves, leaf="x"):
    """The same as core text, with no blank that isn't needed."""
    if leaves == 1:
        return leaf
    half = leaves // 2
    first, second = core_tree(leaves - half, leaf), core_tree(half, leaf)
    return "(+" + first + (" " if first == second == leaf else "") + second + ")"


def measured(length):
    """A number of so many bytes that is shown as it stands, as 1[m.m.m]."""
    count = length - len("1[]")
    return "1[" + "m." * ((count - 1) // 2) + "m" * (1 + (count - 1) % 2) + "]"


def made_up(source, size, depth=40, leaves=LEAVES):
    """A term of about the given size and at most the given depth."""
    if size <= 1 or depth == 1:
        return source.choice(leaves)
    form = source.choice(sorted(SHAPES))
    shares = [source.random() for sign in SHAPES[form]]
    found = [form]
    for sign, share in zip(SHAPES[form], shares):
        if sign == "n":
            found.append(source.choice(NAMES))
        elif sign == "d":
            found.append(str(source.randrange(-9, 10)))
        else:
            found.append(made_up(source, int((size - 1) * share / sum(shares)), depth - 1, leaves))
    return tuple(found)


def many_terms(count, seed, most=60):
    source = random.Random(seed)
    return [made_up(source, source.randrange(1, most), source.choice([3, 6, 40])) for number in range(count)]


def core_of(term):
    if isinstance(term, str):
        return term
    words = term[1:] if term[0] == "apply" else term
    return "(" + " ".join(core_of(word) for word in words) + ")"


def parts_of(term):
    if isinstance(term, str):
        return []
    return [piece for sign, piece in zip(SHAPES[term[0]], term[1:]) if sign in "pb"]
