"""Reading a surface text to a term. What is still to be read is kept in a list, so no text nests too deep."""

from measuretext.faults import Fault
from measuretext.grammar import RULES
from measuretext.makers import MAKERS, Piece, Use
from measuretext.nodes import check_limits
from measuretext.scan import SIGN_GROUP, Token, surface_tokens

MOST_OUTER_EXPRESSIONS = 39


# Where a reading stands: the tokens, what is still to do (the next last), and what was read so far.
class Reader:
    def __init__(self, ahead):
        self.ahead = ahead
        self.index = 0
        self.todo = ["end", "EXPRESSION"]
        self.taken = []
        self.around = 0

    def upcoming(self):
        return self.ahead[self.index]

    def take_token(self):
        self.taken.append(self.upcoming())
        self.index += 1


# The term that the surface text says, within the limits of depth and size.
def surface_term(text):
    ahead = surface_tokens(text)
    ahead.append(Token(SIGN_GROUP, "end", len(text), len(text), ""))
    reader = Reader(ahead)
    while reader.todo:
        go_on(reader, reader.todo.pop())
    term = reader.taken[0].node
    check_limits(term)
    return term


def go_on(reader, step):
    if step in RULES:
        begin_rule(reader, step)
    elif step in MAKERS:
        make_piece(reader, step)
    elif step == "leave expression":
        reader.around -= 1
    elif step == "any token" or step == reader.upcoming().kind:
        reader.take_token()
    else:
        raise Fault(6, reader.upcoming().begin)


def begin_rule(reader, rule):
    if rule == "EXPRESSION":
        enter_expression(reader)
    for step in reversed(path_of(rule, reader.upcoming())):
        reader.todo.append(step)


def enter_expression(reader):
    if reader.around > MOST_OUTER_EXPRESSIONS:
        raise Fault(7, reader.upcoming().begin)
    reader.around += 1
    reader.todo.append("leave expression")


def path_of(rule, token):
    for way in RULES[rule]:
        if way[0] == () or token.kind in way[0]:
            return way[1]
    raise Fault(6, token.begin)


def make_piece(reader, step):
    reach = MAKERS[step][0]
    maker = MAKERS[step][1]
    first = first_taken(reader.taken, reach)
    use = Use(reader.taken[first:])
    reader.taken = reader.taken[:first]
    reader.taken.append(Piece(maker(use), use.begin, use.end))


def first_taken(taken, reach):
    if isinstance(reach, int):
        return len(taken) - reach
    first = len(taken) - 1
    while taken[first].kind != reach:
        first -= 1
    return first
