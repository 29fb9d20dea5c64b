"""Reading a surface text to a term. What is still to be read is kept in a list, so no text nests too deep."""

from measuretext.faults import Fault
from measuretext.grammar import RULES
from measuretext.makers import MAKERS, Piece, Use
from measuretext.nodes import check_limits
from measuretext.scan import Row, surface_tokens

MOST_OUTER_EXPRESSIONS = 39


# Where a reading stands: the tokens, what is still to do (the next last), and what was read so far.
class Reader:
    def __init__(self, row):
        self.row = row
        self.todo = ["end", "EXPRESSION"]
        self.taken = []
        self.around = 0


# The term that the surface text says, within the limits of depth and size.
def surface_term(text):
    reader = Reader(Row(surface_tokens(text), len(text)))
    while reader.todo:
        go_on(reader, reader.todo.pop())
    term = reader.taken[0].node
    check_limits(term)
    return term


def go_on(reader, step):
    if step in RULES:
        begin_rule(reader, step)
    elif step in MAKERS:
        make_piece(reader, step)
    elif step == "leave expression":
        reader.around -= 1
    elif step == "any token":
        reader.taken.append(reader.row.take())
    else:
        reader.taken.append(reader.row.take_kind(step))


def begin_rule(reader, rule):
    if rule == "EXPRESSION":
        enter_expression(reader)
    for step in reversed(path_of(rule, reader.row.upcoming())):
        reader.todo.append(step)


def enter_expression(reader):
    if reader.around > MOST_OUTER_EXPRESSIONS:
        raise Fault(7, reader.row.upcoming().begin)
    reader.around += 1
    reader.todo.append("leave expression")


def path_of(rule, token):
    for way in RULES[rule]:
        if way[0] == () or token.kind in way[0]:
            return way[1]
    raise Fault(6, token.begin)


def make_piece(reader, step):
    reach = MAKERS[step][0]
    maker = MAKERS[step][1]
    first = first_taken(reader.taken, reach)
    use = Use(reader.taken[first:])
    reader.taken = reader.taken[:first]
    reader.taken.append(Piece(maker(use), use.begin, use.end))


def first_taken(taken, reach):
    if isinstance(reach, int):
        return len(taken) - reach
    first = len(taken) - 1
    while taken[first].kind != reach:
        first -= 1
    return first
