"""Trees as tuples: the trees inside them, and trees with others in their places."""

# Where the trees directly inside a tree stand in it. In a seq and a pipe the
# only entry is the tuple of these trees.
PLACES = {
    "trap": (2,),
    "and": (1, 2),
    "or": (1, 2),
    "not": (1,),
    "if": (1, 2, 3),
    "while": (1, 2),
    "until": (1, 2),
    "times": (2,),
    "sub": (1,),
}


def parts_of(tree):
    """Returns the trees directly inside the tree, in order."""
    word = tree[0]
    if word == "seq" or word == "pipe":
        return tree[1]
    if word not in PLACES:
        return ()
    return tuple([tree[place] for place in PLACES[word] if tree[place] is not None])


def with_parts(tree, parts):
    """Returns the tree with these trees directly inside it."""
    word = tree[0]
    if word == "seq" or word == "pipe":
        return (word, tuple(parts))
    entries = list(tree)
    places = [place for place in PLACES.get(word, ()) if tree[place] is not None]
    for place, part in zip(places, parts):
        entries[place] = part
    return tuple(entries)


def changed_tree(tree, change):
    """Returns the tree in which each tree is what `change` makes of it, inner trees first."""
    parts = [changed_tree(part, change) for part in parts_of(tree)]
    return change(with_parts(tree, parts))


def changed_program(program, change):
    """Returns the program in which each tree is what `change` makes of it, inner trees first."""
    functions, main = program
    entries = [(name, changed_tree(body, change)) for name, body in functions]
    return tuple(entries), changed_tree(main, change)


def with_tree_at(program, path, tree):
    """Returns the program with another tree at the path."""
    functions, main = program
    if path[0] == -1:
        return functions, with_inner_tree(main, path[1:], tree)
    entries = list(functions)
    name, body = entries[path[0]]
    entries[path[0]] = (name, with_inner_tree(body, path[1:], tree))
    return tuple(entries), main


def with_inner_tree(outer, places, tree):
    if not places:
        return tree
    parts = list(parts_of(outer))
    parts[places[0]] = with_inner_tree(parts[places[0]], places[1:], tree)
    return with_parts(outer, parts)
