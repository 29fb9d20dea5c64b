"""Texts as the calls take them, and answers as people read them."""

from measuretext import terms

TAKEN = (
    "fn let rec if cons case pair fst snd fold root floor rest true false nil truth num list base unit def fun in "
    "then else match with and or not"
).split()


def data(text):
    return [ord(sign) for sign in text]


def read(text):
    """The core text if there is one, else the answer's numbers."""
    answer = terms.read(data(text))
    if answer[0] != 0:
        return answer
    return "".join(chr(byte) for byte in answer[1:])


def tokens(text):
    """A list of (sort, place, length) if the text has no fault, else the answer's numbers."""
    answer = terms.tokens(data(text))
    if answer[0] != 0:
        return answer
    rest = answer[1:]
    return [tuple(rest[at:at + 3]) for at in range(0, len(rest), 3)]


def tree(leaves, leaf="x"):
    """A surface text of a sum as flat as can be, with so many leaves: one node less than twice as many."""
    if leaves == 1:
        return leaf
    half = leaves // 2
    return "(" + tree(leaves - half, leaf) + "+" + tree(half, leaf) + ")"
