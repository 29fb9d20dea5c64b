"""Bound names: which are free, their plain forms v0, v1, v2, .., and terms put for a free name."""

from measuretext.nodes import PART_KINDS, Node, contents


# The free names, each once, in the order in which they first stand free in the core text.
def free_names(term):
    found = {}
    todo = [(term, ())]
    while todo:
        item = todo.pop()
        node = item[0]
        bound = item[1]
        if node.form == "name" and node.words[0] not in bound:
            found[node.words[0]] = True
        for content in reversed(contents(node)):
            if content[0] == "part":
                todo.append((content[1], bound))
            elif content[0] == "body":
                todo.append((content[1], bound + tuple(node.words)))
    return list(found)


# Gives out v0, v1, v2, .. in turn, but none of the names to keep away from.
class FreshNames:
    def __init__(self, away):
        self.away = away
        self.tried = 0

    def take(self):
        name = "v" + str(self.tried)
        self.tried += 1
        while name in self.away:
            name = "v" + str(self.tried)
            self.tried += 1
        return name


# A word or part that is still to be copied: what it is to its node, the node's copy, and the new names that hold
# there by the old ones.
class Uncopied:
    def __init__(self, kind, content, owner, renamed):
        self.kind = kind
        self.content = content
        self.owner = owner
        self.renamed = renamed


def plain_form(term):
    return plain_form_away(term, free_names(term))


def plain_form_away(term, away):
    fresh = FreshNames(away)
    whole = Node("whole", [], [], term.begin, term.end)
    todo = [Uncopied("part", term, whole, {})]
    while todo:
        item = todo.pop()
        if item.kind in PART_KINDS:
            copy_node(todo, item)
        elif item.kind == "name":
            name = fresh.take()
            item.renamed[item.content] = name
            item.owner.words.append(name)
        else:
            item.owner.words.append(item.content)
    return whole.parts[0]


def copy_node(todo, item):
    node = item.content
    copied = Node(node.form, leaf_words(node, item.renamed), [], node.begin, node.end)
    item.owner.parts.append(copied)
    # The names come off the list before the body does: the body finds them here, though they aren't known yet.
    within = dict(item.renamed)
    for content in reversed(contents(node)):
        renamed = item.renamed if content[0] == "part" else within
        todo.append(Uncopied(content[0], content[1], copied, renamed))


def leaf_words(node, renamed):
    if node.form == "name":
        return [renamed.get(node.words[0], node.words[0])]
    if node.form == "number":
        return [node.words[0]]
    return []


# The term with the other one put for the name; the bound names give way first, so that none catches a free one.
def put_for(name, term, other):
    away = free_names(term) + free_names(other) + [name]
    return with_name_replaced(plain_form_away(term, away), name, other)


# A copy of the term, in which the name is bound nowhere, with the other one in each place of the name.
def with_name_replaced(term, name, other):
    whole = Node("whole", [], [], term.begin, term.end)
    todo = [(term, whole)]
    while todo:
        item = todo.pop()
        node = item[0]
        owner = item[1]
        if node.form == "name" and node.words[0] == name:
            owner.parts.append(other)
        else:
            copied = Node(node.form, node.words, [], node.begin, node.end)
            owner.parts.append(copied)
            for part in reversed(node.parts):
                todo.append((part, copied))
    return whole.parts[0]
