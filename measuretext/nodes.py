"""Core terms: their nodes, the limits they keep to, and their core text."""

from measuretext.faults import Fault

MOST_DEPTH = 40
MOST_NODES = 300
SPELLED_FORMS = ("name", "number")
PLAIN_FORMS = ("true", "false", "nil")


# One node of a term with its stretch, from byte begin to before byte end.
# The form is the word or sign that core text puts first, or "name", "number" or "apply".
# The words are the names that the form binds, or a name's, a number's or an exponent's text.
class Node:
    def __init__(self, form, words, parts, begin, end):
        self.form = form
        self.words = words
        self.parts = parts
        self.begin = begin
        self.end = end


# Raise the fault of the first node that lies too deep or is one too many.
def check_limits(term):
    number = 0
    todo = [(term, 1)]
    while todo:
        item = todo.pop()
        node = item[0]
        depth = item[1]
        if depth > MOST_DEPTH:
            raise Fault(8, node.begin)
        if number == MOST_NODES:
            raise Fault(9, node.begin)
        number += 1
        for part in reversed(node.parts):
            todo.append((part, depth + 1))


def core_text(term):
    shown = []
    todo = [term]
    while todo:
        item = todo.pop()
        if isinstance(item, str):
            shown.append(item)
        else:
            for piece in reversed(core_pieces(item)):
                todo.append(piece)
    return "".join(shown)


# The texts and nodes that the node's core text is made of, in their order.
def core_pieces(node):
    if node.form in SPELLED_FORMS:
        return [node.words[0]]
    if node.form in PLAIN_FORMS:
        return [node.form]
    pieces = ["("]
    for piece in bracket_pieces(node):
        if len(pieces) > 1:
            pieces.append(" ")
        pieces.append(piece)
    pieces.append(")")
    return pieces


def bracket_pieces(node):
    if node.form == "apply":
        return node.parts
    if node.form == "case":
        return [node.form] + node.parts[:2] + node.words + node.parts[2:]
    if node.form == "^":
        return [node.form] + node.parts + node.words
    return [node.form] + node.words + node.parts
