"""The calls. Each takes texts as lists of bytes and answers a list of whole numbers."""

from measuretext.bound import free_names, plain_form, put_for
from measuretext.core_reader import core_term
from measuretext.faults import Fault
from measuretext.layout import surface_text
from measuretext.nodes import binding_places, check_limits, core_text, numbered
from measuretext.reader import surface_term
from measuretext.scan import surface_tokens
from measuretext.signs import is_name, signs_of

MOST_BYTES = 2000
TEXT_TOO_LONG = -1
NOT_THERE = -2
NO_NAME = -3
TOO_GREAT = -4
IN_SECOND_TEXT = 20


# Of each token of a surface text its sort, its place and how many bytes it has.
def tokens(text):
    return answered(text, surface_tokens, tokens_answer)


# The core text of the term that a surface text says.
def read(text):
    return answered(text, surface_term, core_answer)


# The core text, as it is shown, of the term that a core text says.
def core(text):
    return answered(text, core_term, core_answer)


# The surface text of the term that a core text says.
def show(text):
    return answered(text, core_term, surface_answer)


# The surface text, as it is shown, of the term that a surface text says.
def tidy(text):
    return answered(text, surface_term, surface_answer)


# Where the stretch of the node with the given number begins, and how many bytes it has.
def where(node, text):
    return answered(text, surface_term, lambda term: stretch_answer(term, node))


# The number of the node with the shortest stretch that holds the byte at the given place.
def at(place, text):
    return answered(text, surface_term, lambda term: node_answer(term, place))


# Of each free name of the term that a core text says its length and its bytes.
def free(text):
    return answered(text, core_term, free_answer)


# The core text of the plain form of the term that a core text says.
def plain(text):
    return answered(text, core_term, plain_answer)


# Whether two core texts say terms that differ in bound names alone.
def alike(first, second):
    if is_either_too_long(first, second):
        return [TEXT_TOO_LONG]
    return both_answered(first, second, alike_answer)


# The core text of the first term with the second put for a name, in its plain form.
def put(name, first, second):
    if is_either_too_long(first, second):
        return [TEXT_TOO_LONG]
    word = signs_of(name)
    if not is_name(word):
        return [NO_NAME]
    return both_answered(first, second, lambda term, other: put_answer(word, term, other))


# How many nodes the term has that a core text says, its greatest depth, and how many binding places.
def size(text):
    return answered(text, core_term, size_answer)


# What is answered of what the text is read to, or the text's refusal or fault.
def answered(text, reading, answering):
    if len(text) > MOST_BYTES:
        return [TEXT_TOO_LONG]
    try:
        found = reading(text)
    except Fault as fault:
        return [fault.kind, fault.place]
    return answering(found)


def is_either_too_long(first, second):
    return len(first) > MOST_BYTES or len(second) > MOST_BYTES


# What is answered of the terms that two core texts say, or the first fault of the texts.
def both_answered(first, second, answering):
    try:
        term = core_term(first)
    except Fault as fault:
        return [fault.kind, fault.place]
    try:
        other = core_term(second)
    except Fault as fault:
        return [fault.kind + IN_SECOND_TEXT, fault.place]
    return answering(term, other)


def tokens_answer(found):
    answer = [0]
    for token in found:
        answer.extend([token.group, token.begin, token.end - token.begin])
    return answer


def core_answer(term):
    return text_answer(core_text(term))


def surface_answer(term):
    return text_answer(surface_text(term))


def stretch_answer(term, number):
    found = numbered(term)
    if number < 0 or number >= len(found):
        return [NOT_THERE]
    node = found[number][0]
    return [0, node.begin, node.end - node.begin]


def node_answer(term, place):
    shortest = None
    answer = [NOT_THERE]
    for number, item in enumerate(numbered(term)):
        node = item[0]
        length = node.end - node.begin
        if node.begin <= place < node.end and (shortest is None or length < shortest):
            shortest = length
            answer = [0, number]
    return answer


def free_answer(term):
    answer = [0]
    for name in free_names(term):
        answer.append(len(name))
        answer.extend(bytes_of(name))
    return answer


def plain_answer(term):
    return text_answer(core_text(plain_form(term)))


def alike_answer(term, other):
    if core_text(plain_form(term)) == core_text(plain_form(other)):
        return [0, 1]
    return [0, 0]


def put_answer(name, term, other):
    outcome = put_for(name, term, other)
    try:
        check_limits(outcome)
    except Fault:
        return [TOO_GREAT]
    return plain_answer(outcome)


def size_answer(term):
    found = numbered(term)
    deepest = max([item[1] for item in found])
    return [0, len(found), deepest, sum([binding_places(item[0]) for item in found])]


def text_answer(shown):
    if len(shown) > MOST_BYTES:
        return [TOO_GREAT]
    return [0] + bytes_of(shown)


def bytes_of(shown):
    return [ord(sign) for sign in shown]
