"""Texts as the calls take them, and answers as people read them."""

import copy

from measuretext import terms

TAKEN = (
    "fn let rec if cons case pair fst snd fold root floor rest true false nil truth num list base unit def fun in "
    "then else match with and or not"
).split()


def data(text):
    return [ord(sign) for sign in text]


def call_twice(case, call, *handed):
    """Holds that the answer is a list of ints, that what is handed in stays, and that nothing is kept."""
    before = copy.deepcopy(handed)
    answer = call(*handed)
    case.assertEqual(handed, before)
    case.assertIs(type(answer), list)
    case.assertTrue(all(type(number) is int for number in answer))
    kept = list(answer)
    answer.append(7)
    case.assertEqual(call(*handed), kept)
    case.assertEqual(handed, before)


def said(answer):
    """The text that was answered, or the numbers of a fault or refusal."""
    if answer[0] != 0:
        return answer
    return "".join(chr(byte) for byte in answer[1:])


def read(text):
    return said(terms.read(data(text)))


def core(text):
    return said(terms.core(data(text)))


def show(text):
    return said(terms.show(data(text)))


def tidy(text):
    return said(terms.tidy(data(text)))


def where(node, text):
    return terms.where(node, data(text))


def at(place, text):
    return terms.at(place, data(text))


def free(text):
    """The free names in their order, or the numbers of a fault or refusal."""
    answer = terms.free(data(text))
    if answer[0] != 0:
        return answer
    found, place = [], 1
    while place < len(answer):
        end = place + 1 + answer[place]
        found.append("".join(chr(byte) for byte in answer[place + 1:end]))
        place = end
    return found


def plain(text):
    return said(terms.plain(data(text)))


def alike(first, second):
    return terms.alike(data(first), data(second))


def put(name, first, second):
    return said(terms.put(data(name), data(first), data(second)))


def size(text):
    return terms.size(data(text))


def stretches(text):
    """What where answers of each node, without the 0."""
    found = []
    answer = where(0, text)
    while answer[0] == 0:
        found.append(tuple(answer[1:]))
        answer = where(len(found), text)
    return found


def tokens(text):
    """A list of (sort, place, length) if the text has no fault, else the answer's numbers."""
    answer = terms.tokens(data(text))
    if answer[0] != 0:
        return answer
    rest = answer[1:]
    return [tuple(rest[at:at + 3]) for at in range(0, len(rest), 3)]


def tree(leaves, leaf="x"):
    """A surface text of a sum as flat as can be, with so many leaves: one node less than twice as many."""
    if leaves == 1:
        return leaf
    half = leaves // 2
    return "(" + tree(leaves - half, leaf) + "+" + tree(half, leaf) + ")"


def core_tree(leaves, leaf="x"):
    """The same as core text, with no blank that isn't needed."""
    if leaves == 1:
        return leaf
    half = leaves // 2
    first, second = core_tree(leaves - half, leaf), core_tree(half, leaf)
    return "(+" + first + (" " if first == second == leaf else "") + second + ")"


def measured(length):
    """A number of so many bytes that is shown as it stands, as 1[m.m.m]."""
    count = length - len("1[]")
    return "1[" + "m." * ((count - 1) // 2) + "m" * (1 + (count - 1) % 2) + "]"


# A surface text with each fault, some with several, and the fault that is told.
SURFACE_FAULTS = {
    "": [6, 0],
    " {a} \n": [6, 6],
    "x ?": [1, 2],
    "x {a\t}": [1, 4],
    "x.y": [1, 1],
    "x {note": [2, 2],
    "f abcdefghijklm": [3, 2],
    "f 1/0": [4, 2],
    "- 1/0": [4, 2],
    "0.000000000001": [4, 0],
    "5[m": [5, 1],
    "f 12[m..s]": [5, 4],
    ") ?": [1, 2],
    "1 + ": [6, 4],
    "(1": [6, 2],
    "a < b < c": [6, 6],
    "fun let -> x": [6, 4],
    "x ^ 10": [6, 4],
    "f - fst": [6, 7],
    "let x = 1 then x": [6, 10],
    "(" * 40 + "x": [7, 40],
    "[" * 41: [7, 40],
    "x" + "^2" * 40: [8, 0],
    "f (x" + "^2" * 39 + ")": [8, 3],
    "not " * 40 + "a": [8, 160],
    tree(151): [9, tree(151).rindex("x")],
    "[" + tree(150) + "]": [9, 0],
}

# The same for core texts.
CORE_FAULTS = {
    "": [6, 0],
    "   ": [6, 3],
    "(f\nx)": [1, 2],
    "{} x": [1, 0],
    "(fun x -> x)": [1, 8],
    "(f abcdefghijklm)": [3, 3],
    "(f -1/0)": [4, 3],
    "0000000000001": [4, 0],
    "(f -1[M])": [5, 5],
    "5[m": [5, 1],
    ") ?": [1, 2],
    "(+ 1": [6, 4],
    "(a)": [6, 2],
    "a b": [6, 2],
    "a + b": [6, 2],
    "(fun x a)": [6, 1],
    "(fn let x)": [6, 4],
    "(^ a 10)": [6, 5],
    "(" * 41: [8, 40],
    "(f " * 39 + "(": [8, 118],
    "(fn x " * 40 + "x": [8, 240],
    core_tree(151): [9, core_tree(151).rindex("x")],
    "(pair " + core_tree(150) + " (f x))": [9, 7 + len(core_tree(150))],
    core_tree(151) + " ?": [1, len(core_tree(151)) + 1],
}
