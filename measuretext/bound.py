"""Bound names: which names of a term are free."""

from measuretext.nodes import contents


# The free names, each once, in the order in which they first stand free in the core text.
def free_names(term):
    found = {}
    todo = [(term, ())]
    while todo:
        item = todo.pop()
        node = item[0]
        bound = item[1]
        if node.form == "name" and node.words[0] not in bound:
            found[node.words[0]] = True
        for content in reversed(contents(node)):
            if content[0] == "part":
                todo.append((content[1], bound))
            elif content[0] == "body":
                todo.append((content[1], bound + tuple(node.words)))
    return list(found)
