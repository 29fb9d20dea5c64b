"""What the rules of the surface form read: from one use of a rule to nodes."""

from measuretext.figures import amount_text, negated
from measuretext.nodes import Node


# A term that was read, with the place of all its text, brackets round it counted.
class Piece:
    def __init__(self, node, begin, end):
        self.kind = "term"
        self.node = node
        self.begin = begin
        self.end = end


# One use of a rule: the tokens and pieces it took, and so the stretch of all nodes it makes.
class Use:
    def __init__(self, taken):
        self.taken = taken
        self.begin = taken[0].begin
        self.end = taken[-1].end

    def make(self, form, words, parts):
        return Node(form, words, parts, self.begin, self.end)

    def part(self, place):
        return self.taken[place].node

    def parts_within(self):
        return [item.node for item in self.taken if item.kind == "term"]

    def names_within(self):
        return [item.content for item in self.taken if item.kind == "name"]


def functions(use, names, body):
    for name in reversed(names):
        body = use.make("fn", [name], [body])
    return body


def recursive(use, names, body):
    return use.make("rec", names[:2], [functions(use, names[2:], body)])


def make_fun(use):
    return functions(use, use.names_within(), use.part(-1))


def make_rec(use):
    return recursive(use, use.names_within(), use.part(-1))


def make_let(use):
    names = use.names_within()
    parts = use.parts_within()
    if use.taken[1].kind == "rec":
        value = recursive(use, names, parts[0])
    else:
        value = functions(use, names[1:], parts[0])
    return use.make("let", names[:1], [value, parts[1]])


def make_if(use):
    return use.make("if", [], use.parts_within())


def make_match(use):
    return use.make("case", use.names_within(), use.parts_within())


def make_or(use):
    return use.make("if", [], [use.part(0), use.make("true", [], []), use.part(2)])


def make_and(use):
    return use.make("if", [], [use.part(0), use.part(2), use.make("false", [], [])])


def opposite(use, condition):
    return use.make("if", [], [condition, use.make("false", [], []), use.make("true", [], [])])


def make_not(use):
    return opposite(use, use.part(1))


def make_compare(use):
    sign = use.taken[1].kind
    straight = [use.part(0), use.part(2)]
    turned = [use.part(2), use.part(0)]
    if sign == ">":
        return use.make("<", [], turned)
    if sign == "<=":
        return opposite(use, use.make("<", [], turned))
    if sign == ">=":
        return opposite(use, use.make("<", [], straight))
    if sign == "<>":
        return opposite(use, use.make("=", [], straight))
    return use.make(sign, [], straight)


def make_consing(use):
    return use.make("cons", [], [use.part(0), use.part(2)])


def make_between(use):
    return use.make(use.taken[1].kind, [], [use.part(0), use.part(2)])


def make_power(use):
    return use.make("^", [str(use.taken[2].content.over)], [use.part(0)])


def make_minus_power(use):
    return use.make("^", [str(-use.taken[3].content.over)], [use.part(0)])


def make_apply(use):
    return use.make("apply", [], [use.part(0), use.part(1)])


def make_minus_number(use):
    return use.make("number", [amount_text(negated(use.taken[1].content))], [])


def make_word(use):
    return use.make(use.taken[0].kind, [], use.parts_within())


def make_name(use):
    return use.make("name", [use.taken[0].content], [])


def make_number(use):
    return use.make("number", [amount_text(use.taken[0].content)], [])


def make_truth(use):
    return use.make(use.taken[0].kind, [], [])


def make_bracket(use):
    parts = use.parts_within()
    node = parts[-1]
    for part in reversed(parts[:-1]):
        node = use.make("pair", [], [part, node])
    return node


def make_list(use):
    node = use.make("nil", [], [])
    for part in reversed(use.parts_within()):
        node = use.make("cons", [], [part, node])
    return node


# Each maker with how much it takes from what was read last: so many, or all back to the last token of a kind.
MAKERS = {
    "make fun": ("fun", make_fun),
    "make rec": ("rec", make_rec),
    "make let": ("let", make_let),
    "make if": (6, make_if),
    "make match": (13, make_match),
    "make or": (3, make_or),
    "make and": (3, make_and),
    "make not": (2, make_not),
    "make compare": (3, make_compare),
    "make consing": (3, make_consing),
    "make sum": (3, make_between),
    "make product": (3, make_between),
    "make power": (3, make_power),
    "make minus power": (4, make_minus_power),
    "make apply": (2, make_apply),
    "make minus number": (2, make_minus_number),
    "make word of one": (2, make_word),
    "make word of two": (3, make_word),
    "make word of three": (4, make_word),
    "make name": (1, make_name),
    "make number": (1, make_number),
    "make truth": (1, make_truth),
    "make bracket": ("(", make_bracket),
    "make list": ("[", make_list),
}
