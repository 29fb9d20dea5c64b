"""The calls. Each takes texts as lists of bytes and answers a list of whole numbers."""

from measuretext.faults import Fault
from measuretext.nodes import core_text
from measuretext.reader import surface_term
from measuretext.scan import surface_tokens

MOST_BYTES = 2000
TEXT_TOO_LONG = -1
ANSWER_TOO_LONG = -4


# Of each token of a surface text its sort, its place and how many bytes it has.
def tokens(text):
    if len(text) > MOST_BYTES:
        return [TEXT_TOO_LONG]
    try:
        found = surface_tokens(text)
    except Fault as fault:
        return [fault.kind, fault.place]
    answer = [0]
    for token in found:
        answer.extend([token.group, token.begin, token.end - token.begin])
    return answer


# The core text of the term that a surface text says.
def read(text):
    if len(text) > MOST_BYTES:
        return [TEXT_TOO_LONG]
    try:
        term = surface_term(text)
    except Fault as fault:
        return [fault.kind, fault.place]
    return text_answer(core_text(term))


def text_answer(shown):
    if len(shown) > MOST_BYTES:
        return [ANSWER_TOO_LONG]
    return [0] + [ord(sign) for sign in shown]
