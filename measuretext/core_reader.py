"""Reading a core text to a term. What is still to be read is kept in a list, so no text nests too deep."""

from measuretext.faults import Fault
from measuretext.figures import amount_text
from measuretext.nodes import FORMS, MOST_DEPTH, PART_KINDS, PLAIN_FORMS, Node, check_limits
from measuretext.scan import Row, core_tokens


# Something that has to stand next: what it is, the node that it belongs to, and that node's depth.
class Step:
    def __init__(self, kind, owner, depth):
        self.kind = kind
        self.owner = owner
        self.depth = depth


# The term that the core text says, within the limits of depth and size.
def core_term(text):
    row = Row(core_tokens(text), len(text))
    whole = Node("whole", [], [], 0, 0)
    todo = [Step("end", whole, 0), Step("part", whole, 0)]
    while todo:
        go_on(row, todo, todo.pop())
    term = whole.parts[0]
    check_limits(term)
    return term


def go_on(row, todo, step):
    owner = step.owner
    if step.kind in PART_KINDS:
        begin_term(row, todo, step)
    elif step.kind == "name":
        owner.words.append(row.take_kind("name").content)
    elif step.kind == "power":
        owner.words.append(amount_text(row.take_kind("digit").content))
    else:
        owner.end = row.take_kind(step.kind).end


def begin_term(row, todo, step):
    # The depth is asked before the token: what would stand too deep is told whatever it is.
    if step.depth == MOST_DEPTH:
        raise Fault(8, row.upcoming().begin)
    if row.upcoming().kind == "(":
        node = bracket_begin(row)
        todo.append(Step(")", node, step.depth + 1))
        for kind in reversed(FORMS[node.form]):
            todo.append(Step(kind, node, step.depth + 1))
    else:
        node = leaf(row.upcoming())
        row.take()
    step.owner.parts.append(node)


def bracket_begin(row):
    begin = row.take().begin
    form = "apply"
    if row.upcoming().kind in FORMS:
        form = row.take().kind
    return Node(form, [], [], begin, begin)


def leaf(token):
    if token.kind == "name":
        return Node("name", [token.content], [], token.begin, token.end)
    if token.kind == "number" or token.kind == "digit":
        return Node("number", [amount_text(token.content)], [], token.begin, token.end)
    if token.kind in PLAIN_FORMS:
        return Node(token.kind, [], [], token.begin, token.end)
    raise Fault(6, token.begin)
