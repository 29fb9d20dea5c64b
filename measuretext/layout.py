"""Terms shown as surface text, with brackets only where they are needed.

A part that is to be shown stands among the pieces of a text as its node and the least rank that needs no brackets.
"""

from measuretext.nodes import unfolded

OPEN_RANK = 0
CONSING_RANK = 5
APPLY_RANK = 9
ATOM_RANK = 10

RANKS = {
    "name": 10, "true": 10, "false": 10, "nil": 10, "pair": 10,
    "fn": 0, "rec": 0, "let": 0, "if": 0, "case": 0,
    "<": 4, "=": 4, "+": 6, "-": 6, "*": 7, "/": 7, "^": 8,
    "apply": 9, "fst": 9, "snd": 9, "root": 9, "floor": 9, "rest": 9, "fold": 9,
}

# The ranks at which the two parts are shown.
OPERAND_RANKS = {
    "<": (5, 5), "=": (5, 5), "::": (6, 5), "+": (6, 7), "-": (6, 7), "*": (7, 8), "/": (7, 8),
}


def surface_text(term):
    return unfolded((term, OPEN_RANK), ranked_pieces)


def ranked_pieces(item):
    node = item[0]
    laid_out = PIECES[node.form]
    pieces = laid_out(node)
    if rank_of(node) < item[1]:
        return ["("] + pieces + [")"]
    return pieces


def rank_of(node):
    if node.form == "number":
        return APPLY_RANK if node.words[0].startswith("-") else ATOM_RANK
    if node.form == "cons":
        return ATOM_RANK if is_list(node) else CONSING_RANK
    return RANKS[node.form]


def is_list(node):
    while node.form == "cons":
        node = node.parts[1]
    return node.form == "nil"


def spelled_pieces(node):
    return [node.words[0]]


def truth_pieces(node):
    return [node.form]


def fn_pieces(node):
    return ["fun"] + function_pieces([], node, " -> ")


def rec_pieces(node):
    return ["rec"] + function_pieces(node.words, node.parts[0], " -> ")


def let_pieces(node):
    value = node.parts[0]
    if value.form == "rec" and value.words[0] == node.words[0]:
        pieces = ["let rec"] + function_pieces(value.words, value.parts[0], " = ")
    else:
        pieces = ["let"] + function_pieces(node.words, value, " = ")
    return pieces + [" in ", (node.parts[1], OPEN_RANK)]


# The names, those of the functions directly within, the sign behind them, and what is then within.
def function_pieces(names, body, sign):
    pieces = [" " + name for name in names]
    while body.form == "fn":
        pieces.append(" " + body.words[0])
        body = body.parts[0]
    return pieces + [sign, (body, OPEN_RANK)]


def if_pieces(node):
    return [
        "if ", (node.parts[0], OPEN_RANK), " then ", (node.parts[1], OPEN_RANK), " else ", (node.parts[2], OPEN_RANK),
    ]


def case_pieces(node):
    pattern = " | " + node.words[0] + " :: " + node.words[1] + " -> "
    return [
        "match ", (node.parts[0], OPEN_RANK), " with [] -> ", (node.parts[1], OPEN_RANK),
        pattern, (node.parts[2], OPEN_RANK),
    ]


def operator_pieces(node):
    return between(node, node.form)


def between(node, sign):
    ranks = OPERAND_RANKS[sign]
    return [(node.parts[0], ranks[0]), " " + sign + " ", (node.parts[1], ranks[1])]


def power_pieces(node):
    return [(node.parts[0], RANKS["^"]), " ^ " + node.words[0]]


def apply_pieces(node):
    return [(node.parts[0], APPLY_RANK), " ", (node.parts[1], ATOM_RANK)]


def word_pieces(node):
    pieces = [node.form]
    for part in node.parts:
        pieces = pieces + [" ", (part, ATOM_RANK)]
    return pieces


def nil_pieces(node):
    return ["[]"]


def cons_pieces(node):
    if not is_list(node):
        return between(node, "::")
    members = []
    while node.form == "cons":
        members.append(node.parts[0])
        node = node.parts[1]
    return ["["] + with_commas(members) + ["]"]


def pair_pieces(node):
    members = []
    while node.form == "pair":
        members.append(node.parts[0])
        node = node.parts[1]
    members.append(node)
    return ["("] + with_commas(members) + [")"]


def with_commas(members):
    pieces = [(members[0], OPEN_RANK)]
    for member in members[1:]:
        pieces = pieces + [", ", (member, OPEN_RANK)]
    return pieces


PIECES = {
    "name": spelled_pieces, "number": spelled_pieces, "true": truth_pieces, "false": truth_pieces,
    "fn": fn_pieces, "rec": rec_pieces, "let": let_pieces, "if": if_pieces, "case": case_pieces,
    "<": operator_pieces, "=": operator_pieces, "+": operator_pieces, "-": operator_pieces,
    "*": operator_pieces, "/": operator_pieces, "^": power_pieces,
    "apply": apply_pieces, "fst": word_pieces, "snd": word_pieces, "root": word_pieces,
    "floor": word_pieces, "rest": word_pieces, "fold": word_pieces,
    "nil": nil_pieces, "cons": cons_pieces, "pair": pair_pieces,
}
