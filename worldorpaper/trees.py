"""Trees of cases as papers: judging them, what is in them, and cutting them."""

from worldorpaper.clauses import clause_unknowns
from worldorpaper.partial import Partial
from worldorpaper.terms import TOP

BEYOND = ("beyond",)


def first_fault(signature, clauses, limit, tree):
    """The place of the first wrong node in preorder, or None."""
    if limit < 1:
        return ()
    return _fault_below(Partial(signature, clauses), clauses, limit, tree, False)


def judge_tree(signature, clauses, limit, tree):
    """Tells whether a tree is wrong, has a leaf beyond, or is closed."""
    if first_fault(signature, clauses, limit, tree) is not None:
        return "wrong"
    return "beyond" if has_beyond(tree) else "closed"


def tree_nodes(tree):
    """The number of nodes, leaves included."""
    return 1 + sum([tree_nodes(child) for child in children_of(tree)])


def has_beyond(tree):
    """Tells whether there is a leaf beyond."""
    return tree == BEYOND or any(has_beyond(child) for child in children_of(tree))


def clauses_used(tree):
    """The indexes in the leaves `false`, ascending, without duplicates."""
    return sorted(set([leaf[1] for leaf in _leaves(tree) if leaf != BEYOND]))


def cut_tree(signature, clauses, tree):
    """The tree without the nodes whose cell does not matter."""
    cut, _ = _cut_below(Partial(signature, clauses), clauses, tree)
    return cut


def children_of(tree):
    """The trees of the children of a node; a leaf has none."""
    return tree[3] if tree[0] == "cell" else ()


def false_instance(clauses, leaf):
    """The clause of a leaf `false`, and the things at which it is false."""
    _, index, things = leaf
    return clauses[index], dict(zip(clause_unknowns(clauses[index]), things))


def _fault_below(partial, clauses, limit, tree, must_be_beyond):
    """The place of the first wrong node as seen from this one, or None."""
    if must_be_beyond or tree == BEYOND:
        return None if must_be_beyond and tree == BEYOND else ()
    if tree[0] == "false":
        return None if _is_false(partial, clauses, tree) else ()
    cell = tree[1:3]
    if not partial.is_free(cell) or len(partial.ways(cell)) != len(tree[3]):
        return ()
    for index, entry in enumerate(partial.ways(cell)):
        # No entry is greater than the limit, so this one is a new thing. As an entry of a relation True is no integer.
        is_beyond = partial.signature.has_function(cell[0]) and entry == limit
        fault = _fault_below(partial.with_cell(cell, entry), clauses, limit, tree[3][index], is_beyond)
        if fault is not None:
            return (index,) + fault
    return None


def _is_false(partial, clauses, leaf):
    _, index, things = leaf
    if not 0 <= index < len(clauses) or not all([0 <= thing < partial.size for thing in things]):
        return False
    if len(things) != len(clause_unknowns(clauses[index])):
        return False
    clause, values = false_instance(clauses, leaf)
    return partial.read_clause(clause, values) == ("is", False)


def _leaves(tree):
    if tree[0] != "cell":
        return [tree]
    leaves = []
    for child in tree[3]:
        leaves.extend(_leaves(child))
    return leaves


def _cut_below(partial, clauses, tree):
    """The cut tree, and a dict of the cells that its leaves ask."""
    if tree == BEYOND:
        return tree, {}
    if tree[0] == "false":
        return tree, _asked(partial, clauses, tree)
    cell = tree[1:3]
    children = []
    asked = {}
    for entry, child in zip(partial.ways(cell), tree[3]):
        cut, cells = _cut_below(partial.with_cell(cell, entry), clauses, child)
        is_old = partial.signature.has_relation(cell[0]) or entry < partial.size
        if is_old and cell not in cells:
            return cut, cells
        children.append(cut)
        for other in cells:
            asked[other] = True
    return ("cell",) + cell + (tuple(children),), asked


def _asked(partial, clauses, leaf):
    """The cells that are read when both sides of all literals of the instance are computed."""
    clause, values = false_instance(clauses, leaf)
    cells = {}
    for _, left, right in clause:
        for side in (left, right):
            if side != TOP:
                _read(partial, side, values, cells)
    return cells


def _read(partial, term, values, cells):
    """The value of a term or an atom; lists the cells on the way to it."""
    if isinstance(term, str):
        return values[term]
    things = [_read(partial, argument, values, cells) for argument in term[1:]]
    cell = (term[0], tuple(things))
    cells[cell] = True
    _, value = partial.read_term(term, values)
    return value
