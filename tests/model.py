"""Terms as the document tells them, in another form than the program's: to make some up and to look things up in them.

A term is a text (a name, a number, true, false, nil) or a tuple in the order of core text, with its form's word
first; that of an application is "apply".
"""

import random

# n stands for a name that is bound, p for a part, b for a part in which the names are bound, d for an exponent.
SHAPES = {
    "fn": "nb", "rec": "nnb", "let": "npb", "if": "ppp", "apply": "pp", "pair": "pp", "fst": "p", "snd": "p",
    "cons": "pp", "case": "ppnnb", "fold": "ppp", "+": "pp", "-": "pp", "*": "pp", "/": "pp", "<": "pp", "=": "pp",
    "floor": "pp", "rest": "pp", "root": "p", "^": "pd",
}
NAMES = ["x", "y", "f", "v0", "v1", "v2", "v10", "lets", "abcdefghijkl"]
LEAVES = NAMES + ["true", "false", "nil", "nil", "nil", "0", "3", "-3", "3/4", "-1/2", "5[m]", "-7[m/s^-2]", "0[km]"]
# The rank of a sign's term, and those at which its parts are shown.
SIGN_RANKS = {"<": (4, 5, 5), "=": (4, 5, 5), "+": (6, 6, 7), "-": (6, 6, 7), "*": (7, 7, 8), "/": (7, 7, 8)}


def made_up(source, size, depth=40, leaves=LEAVES):
    """A term of about the given size and at most the given depth."""
    if size <= 1 or depth == 1:
        return source.choice(leaves)
    form = source.choice(sorted(SHAPES))
    shares = [source.random() for sign in SHAPES[form]]
    found = [form]
    for sign, share in zip(SHAPES[form], shares):
        if sign == "n":
            found.append(source.choice(NAMES))
        elif sign == "d":
            found.append(str(source.randrange(-9, 10)))
        else:
            found.append(made_up(source, int((size - 1) * share / sum(shares)), depth - 1, leaves))
    return tuple(found)


def many_terms(count, seed, most=60):
    source = random.Random(seed)
    return [made_up(source, source.randrange(1, most), source.choice([3, 6, 40])) for number in range(count)]


def deep_terms(leaf):
    """For each part of each form a term of depth 40, nested in that part alone; each behind its form."""
    for form, shape in SHAPES.items():
        for number in [at for at, sign in enumerate(shape) if sign in "pb"]:
            term = leaf
            for step in range(39):
                pieces = [{"n": "f", "p": "x", "b": "x", "d": "-2"}[sign] for sign in shape]
                pieces[number] = term
                term = (form, *pieces)
            yield form, term


def core_of(term):
    if isinstance(term, str):
        return term
    words = term[1:] if term[0] == "apply" else term
    return "(" + " ".join(core_of(word) for word in words) + ")"


def parts_of(term):
    if isinstance(term, str):
        return []
    return [piece for sign, piece in zip(SHAPES[term[0]], term[1:]) if sign in "pb"]


def ranked(term, rank=0):
    """The surface text of a made-up term, by the document's words."""
    text, own = laid_out(term)
    return "(" + text + ")" if own < rank else text


def names_within(term):
    names = ""
    while isinstance(term, tuple) and term[0] == "fn":
        names += " " + term[1]
        term = term[2]
    return names, ranked(term)


def chain(term, form):
    found = []
    while isinstance(term, tuple) and term[0] == form:
        found.append(term[1])
        term = term[2]
    return found, term


def laid_out(term):
    if isinstance(term, str):
        return ("[]" if term == "nil" else term), (9 if term[0] == "-" else 10)
    form, rest = term[0], term[1:]
    if form in ("fn", "rec"):
        names, within = names_within(term if form == "fn" else term[3])
        lead = "fun" if form == "fn" else f"rec {term[1]} {term[2]}"
        return f"{lead}{names} -> {within}", 0
    if form == "let":
        name, value, body = rest
        lead = "let " + name
        if isinstance(value, tuple) and value[:2] == ("rec", name):
            lead, value = f"let rec {name} {value[2]}", value[3]
        names, within = names_within(value)
        return f"{lead}{names} = {within} in {ranked(body)}", 0
    if form == "if":
        return "if {} then {} else {}".format(*map(ranked, rest)), 0
    if form == "case":
        return f"match {ranked(rest[0])} with [] -> {ranked(rest[1])} | {rest[2]} :: {rest[3]} -> {ranked(rest[4])}", 0
    if form in SIGN_RANKS:
        own, left, right = SIGN_RANKS[form]
        return f"{ranked(rest[0], left)} {form} {ranked(rest[1], right)}", own
    if form == "cons":
        found, last = chain(term, "cons")
        if last == "nil":
            return "[" + ", ".join(map(ranked, found)) + "]", 10
        return f"{ranked(rest[0], 6)} :: {ranked(rest[1], 5)}", 5
    if form == "pair":
        found, last = chain(term, "pair")
        return "(" + ", ".join(map(ranked, found + [last])) + ")", 10
    if form == "^":
        return f"{ranked(rest[0], 8)} ^ {rest[1]}", 8
    if form == "apply":
        return f"{ranked(rest[0], 9)} {ranked(rest[1], 10)}", 9
    return " ".join([form] + [ranked(part, 10) for part in rest]), 9


def is_name(term):
    return isinstance(term, str) and term[0].isalpha() and term not in ("true", "false", "nil")


def free_of(term):
    """The free names, each once, in the order in which they first stand free."""
    if isinstance(term, str):
        return [term] if is_name(term) else []
    shape = SHAPES[term[0]]
    bound = [piece for sign, piece in zip(shape, term[1:]) if sign == "n"]
    found = []
    for sign, piece in zip(shape, term[1:]):
        if sign in "pb":
            found += [name for name in free_of(piece) if sign == "p" or name not in bound]
    return list(dict.fromkeys(found))


def renamed(term, fresh, scope=None):
    """The term with a name that fresh() gives at each binding place, in the order of core text."""
    scope = scope or {}
    if isinstance(term, str):
        return scope.get(term, term)
    found, within = [term[0]], dict(scope)
    for sign, piece in zip(SHAPES[term[0]], term[1:]):
        if sign == "n":
            within[piece] = fresh()
            found.append(within[piece])
        elif sign == "d":
            found.append(piece)
        else:
            found.append(renamed(piece, fresh, within if sign == "b" else scope))
    return tuple(found)


def plain_of(term, away=None):
    away = free_of(term) if away is None else away
    names = iter([name for name in (f"v{number}" for number in range(1000)) if name not in away])
    return renamed(term, lambda: next(names))


def nameless(term, scope=()):
    """The term with, in the place of each bound name, how many binding places stand between it and its own."""
    if isinstance(term, str):
        return scope.index(term) if term in scope else term
    names = [piece for sign, piece in zip(SHAPES[term[0]], term[1:]) if sign == "n"]
    within = tuple(reversed(names)) + scope
    found = [term[0]]
    for sign, piece in zip(SHAPES[term[0]], term[1:]):
        if sign != "n":
            found.append(piece if sign == "d" else nameless(piece, within if sign == "b" else scope))
    return tuple(found)


def changed(source, term):
    """The term with one piece of it, a name at a binding place perhaps, changed to another."""
    if isinstance(term, str):
        return source.choice(LEAVES)
    number = source.randrange(len(SHAPES[term[0]]))
    sign, piece = SHAPES[term[0]][number], term[number + 1]
    if sign == "n":
        piece = source.choice(NAMES)
    elif sign == "d":
        piece = str(source.randrange(-9, 10))
    else:
        piece = changed(source, piece)
    return term[:number + 1] + (piece,) + term[number + 2:]


def term_of(text):
    """The term of a core text as it's shown."""
    tokens = text.replace("(", "( ").replace(")", " )").split()

    def one():
        token = tokens.pop(0)
        if token != "(":
            return token
        form = tokens.pop(0) if tokens[0] in SHAPES else "apply"
        found = [form]
        while tokens[0] != ")":
            found.append(one())
        tokens.pop(0)
        return tuple(found)

    return one()


def put_nameless(name, term, other):
    """A term without names, with another such in the place of each free name: there, nothing can be caught."""
    if isinstance(term, tuple):
        return (term[0], *(put_nameless(name, piece, other) for piece in term[1:]))
    return other if term == name else term


def size_of(term):
    """How many nodes, the greatest depth, how many binding places."""
    sizes = [size_of(part) for part in parts_of(term)]
    places = 0 if isinstance(term, str) else SHAPES[term[0]].count("n")
    return (1 + sum(size[0] for size in sizes), 1 + max([size[1] for size in sizes], default=0),
            places + sum(size[2] for size in sizes))
