"""The rules of the surface form, told by the next token alone.

Each rule has its ways in turn: the kinds of token that it begins with, and the path to go. The first way with
the next token's kind is gone; one without kinds is gone whatever comes next. On a path stand rules in capitals,
kinds of token, and the makers that turn what was just read into a term.
"""

RULES = {
    "EXPRESSION": (
        (("fun",), ("fun", "name", "NAMES", "->", "EXPRESSION", "make fun")),
        (("rec",), ("rec", "name", "name", "NAMES", "->", "EXPRESSION", "make rec")),
        (("let",), ("let", "LET NAMES", "=", "EXPRESSION", "in", "EXPRESSION", "make let")),
        (("if",), ("if", "EXPRESSION", "then", "EXPRESSION", "else", "EXPRESSION", "make if")),
        (("match",), (
            "match", "EXPRESSION", "with", "[", "]", "->", "EXPRESSION",
            "|", "name", "::", "name", "->", "EXPRESSION", "make match",
        )),
        ((), ("OR",)),
    ),
    "NAMES": (
        (("name",), ("name", "NAMES")),
        ((), ()),
    ),
    "LET NAMES": (
        (("rec",), ("rec", "name", "name", "NAMES")),
        ((), ("name", "NAMES")),
    ),
    "OR": (
        ((), ("AND", "OR REST")),
    ),
    "OR REST": (
        (("or",), ("or", "OR", "make or")),
        ((), ()),
    ),
    "AND": (
        ((), ("NOT", "AND REST")),
    ),
    "AND REST": (
        (("and",), ("and", "AND", "make and")),
        ((), ()),
    ),
    "NOT": (
        (("not",), ("not", "NOT", "make not")),
        ((), ("COMPARE",)),
    ),
    "COMPARE": (
        ((), ("CONSING", "COMPARE REST")),
    ),
    "COMPARE REST": (
        (("<", "=", ">", "<=", ">=", "<>"), ("any token", "CONSING", "make compare")),
        ((), ()),
    ),
    "CONSING": (
        ((), ("SUM", "CONSING REST")),
    ),
    "CONSING REST": (
        (("::",), ("::", "CONSING", "make consing")),
        ((), ()),
    ),
    "SUM": (
        ((), ("PRODUCT", "SUM REST")),
    ),
    "SUM REST": (
        (("+", "-"), ("any token", "PRODUCT", "make sum", "SUM REST")),
        ((), ()),
    ),
    "PRODUCT": (
        ((), ("POWER", "PRODUCT REST")),
    ),
    "PRODUCT REST": (
        (("*", "/"), ("any token", "POWER", "make product", "PRODUCT REST")),
        ((), ()),
    ),
    "POWER": (
        ((), ("APPLY", "POWER REST")),
    ),
    "POWER REST": (
        (("^",), ("^", "EXPONENT", "POWER REST")),
        ((), ()),
    ),
    "EXPONENT": (
        (("-",), ("-", "digit", "make minus power")),
        ((), ("digit", "make power")),
    ),
    "APPLY": (
        ((), ("HEAD", "APPLY REST")),
    ),
    "APPLY REST": (
        (("name", "number", "digit", "true", "false", "(", "["), ("ATOM", "make apply", "APPLY REST")),
        ((), ()),
    ),
    "HEAD": (
        (("-",), ("-", "NUMBER", "make minus number")),
        (("fst", "snd", "root"), ("any token", "ATOM", "make word of one")),
        (("floor", "rest"), ("any token", "ATOM", "ATOM", "make word of two")),
        (("fold",), ("fold", "ATOM", "ATOM", "ATOM", "make word of three")),
        ((), ("ATOM",)),
    ),
    "NUMBER": (
        (("number", "digit"), ("any token",)),
    ),
    "ATOM": (
        (("name",), ("name", "make name")),
        (("number", "digit"), ("any token", "make number")),
        (("true", "false"), ("any token", "make truth")),
        (("(",), ("(", "EXPRESSION", "BRACKET REST")),
        (("[",), ("[", "LIST")),
    ),
    "BRACKET REST": (
        ((",",), (",", "EXPRESSION", "BRACKET REST")),
        ((), (")", "make bracket")),
    ),
    "LIST": (
        (("]",), ("]", "make list")),
        ((), ("EXPRESSION", "LIST REST")),
    ),
    "LIST REST": (
        ((",",), (",", "EXPRESSION", "LIST REST")),
        ((), ("]", "make list")),
    ),
}
