"""Core terms: their nodes, the limits they keep to, and their core text."""

from measuretext.faults import Fault

MOST_DEPTH = 40
MOST_NODES = 300
SPELLED_FORMS = ("name", "number")
PLAIN_FORMS = ("true", "false", "nil")
PART_KINDS = ("part", "body")

# What stands in core text behind each form's first word, in turn; an apply has no such word.
# A body is a part in which the form's names are bound.
FORMS = {
    "fn": ("name", "body"),
    "rec": ("name", "name", "body"),
    "let": ("name", "part", "body"),
    "if": ("part", "part", "part"),
    "apply": ("part", "part"),
    "pair": ("part", "part"),
    "fst": ("part",),
    "snd": ("part",),
    "cons": ("part", "part"),
    "case": ("part", "part", "name", "name", "body"),
    "fold": ("part", "part", "part"),
    "+": ("part", "part"),
    "-": ("part", "part"),
    "*": ("part", "part"),
    "/": ("part", "part"),
    "<": ("part", "part"),
    "=": ("part", "part"),
    "floor": ("part", "part"),
    "rest": ("part", "part"),
    "root": ("part",),
    "^": ("part", "power"),
}


# One node of a term with its stretch, from byte begin to before byte end.
# The form is the word or sign that core text puts first, or "name", "number" or "apply".
# The words are the names that the form binds, or a name's, a number's or an exponent's text.
class Node:
    def __init__(self, form, words, parts, begin, end):
        self.form = form
        self.words = words
        self.parts = parts
        self.begin = begin
        self.end = end


# All nodes in the order of their numbers, each with its depth.
def numbered(term):
    found = []
    todo = [(term, 1)]
    while todo:
        item = todo.pop()
        found.append(item)
        for part in reversed(item[0].parts):
            todo.append((part, item[1] + 1))
    return found


# Raise the fault of the first node that lies too deep or is one too many.
def check_limits(term):
    for number, item in enumerate(numbered(term)):
        if item[1] > MOST_DEPTH:
            raise Fault(8, item[0].begin)
        if number == MOST_NODES:
            raise Fault(9, item[0].begin)


# How many names the node binds.
def binding_places(node):
    return FORMS.get(node.form, ()).count("name")


def core_text(term):
    return unfolded(term, core_pieces)


# The text that is left when all but texts is replaced, again and again, by the pieces it is made of.
def unfolded(whole, pieces_of):
    shown = []
    todo = [whole]
    while todo:
        item = todo.pop()
        if isinstance(item, str):
            shown.append(item)
        else:
            for piece in reversed(pieces_of(item)):
                todo.append(piece)
    return "".join(shown)


# The texts and nodes that the node's core text is made of, in their order.
def core_pieces(node):
    if node.form in SPELLED_FORMS:
        return [node.words[0]]
    if node.form in PLAIN_FORMS:
        return [node.form]
    pieces = ["("]
    if node.form != "apply":
        pieces.append(node.form)
    for content in contents(node):
        if len(pieces) > 1:
            pieces.append(" ")
        pieces.append(content[1])
    pieces.append(")")
    return pieces


# The node's words and parts in the order in which they stand in core text, each behind what FORMS calls it.
def contents(node):
    found = []
    words = 0
    for kind in FORMS.get(node.form, ()):
        if kind in PART_KINDS:
            found.append((kind, node.parts[len(found) - words]))
        else:
            found.append((kind, node.words[words]))
            words += 1
    return found
