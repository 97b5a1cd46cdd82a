"""Growing trees of cases, which search for a world of at most so many things."""

from worldorpaper.clauses import clause_unknowns
from worldorpaper.partial import Partial, instances
from worldorpaper.worlds import World, blank_tables, entry_index, table_length


class Branch:
    """A node with a cell; its children are grown one after the other."""

    def __init__(self, partial, blocked, cell, entries):
        self.partial = partial
        # Rows of the index of a clause, things, and the cells that block this instance.
        self.blocked = blocked
        self.cell = cell
        self.entries = entries
        self.trees = []

    def child(self):
        """The partial world of the next child."""
        return self.partial.with_cell(self.cell, self.entries[len(self.trees)])

    def is_full(self):
        """Tells whether the trees of all children are there."""
        return len(self.trees) == len(self.entries)


class Grower:
    """Opens the nodes of a tree of cases, depth first."""

    def __init__(self, signature, clauses, limit, *, picks=(), elder_every=0):
        self.limit = limit
        self.opened = 0
        self.world = None
        self.tree = None
        self.beyond = False
        self._signature = signature
        self._clauses = tuple(clauses)
        self._unknowns = [clause_unknowns(clause) for clause in self._clauses]
        self._picks = tuple(picks)
        self._elder_every = elder_every
        self._has_beyond = False
        # From the root down to the node whose child is opened next.
        self._branches = []

    def has_ended(self):
        """Tells whether a world is found or the tree is closed."""
        return self.world is not None or self.tree is not None

    def step(self):
        """Opens one node."""
        if self.has_ended():
            return
        self.opened += 1
        partial, kept, due = self._next_node()
        blocked = []
        for index, things in due:
            word, found = partial.read_clause(self._clauses[index], dict(zip(self._unknowns[index], things)))
            if word == "blocked":
                blocked.append((index, things, found))
            elif not found:
                self._put(("false", index, things))
                return
        if len(kept) + len(blocked) == 0:
            self.world = _filled_up(partial)
        else:
            self._branch_out(partial, sorted(kept + blocked, key=lambda row: row[:2]))

    def _next_node(self):
        """The partial world of the node, the rows that are blocked as above it, and the instances that are due."""
        if len(self._branches) == 0:
            partial = Partial(self._signature, self._clauses)
            return partial, [], list(instances(self._clauses, partial.size))
        above = self._branches[-1]
        partial = above.child()
        # What the cell does not block reads as before.
        kept = [row for row in above.blocked if above.cell not in row[2]]
        due = [(index, things) for index, things, cells in above.blocked if above.cell in cells]
        if partial.size > above.partial.size:
            everywhere = list(instances(self._clauses, partial.size))
            due = sorted(due + [(index, things) for index, things in everywhere if above.partial.size in things])
        return partial, kept, due

    def _branch_out(self, partial, blocked):
        cell = self._taken_cell(blocked)
        entries = partial.ways(cell)
        if self._is_beyond(partial, cell):
            entries = entries[:-1]
        self._branches.append(Branch(partial, blocked, cell, entries))

    def _is_beyond(self, partial, cell):
        """Tells whether the cell could get a new thing that would be one too many."""
        return self._signature.has_function(cell[0]) and partial.size == self.limit

    def _taken_cell(self, blocked):
        depth = len(self._branches)
        cells = {}
        for _, _, row in blocked:
            for cell in row:
                cells[cell] = True
        listed = list(cells)
        if self._elder_every > 0 and (depth + 1) % self._elder_every == 0:
            return min(listed, key=lambda cell: max(cell[1], default=-1))
        if len(self._picks) == 0:
            return listed[0]
        return listed[self._picks[depth % len(self._picks)] % len(listed)]

    def _put(self, tree):
        """Puts a tree under the node above it, and so on upward while nodes get their last child."""
        while len(self._branches) > 0:
            above = self._branches[-1]
            above.trees.append(tree)
            if not above.is_full():
                return
            self._branches.pop()
            if self._is_beyond(above.partial, above.cell):
                self._has_beyond = True
                above.trees.append(("beyond",))
            tree = ("cell",) + above.cell + (tuple(above.trees),)
        self.tree = tree
        self.beyond = self._has_beyond


def grow(signature, clauses, limit, *, picks=(), elder_every=0):
    """A grower that has ended."""
    grower = Grower(signature, clauses, limit, picks=picks, elder_every=elder_every)
    while not grower.has_ended():
        grower.step()
    return grower


def most_nodes(signature, limit):
    """A number of nodes that no grower at the limit opens."""
    cells = sum([table_length(limit, arity) for _, arity in signature.functions + signature.relations])
    return table_length(limit + 1, cells + 1)


def _filled_up(partial):
    """The world with the decided entries, and with 0 and False for all others."""
    tables = blank_tables(partial.signature, partial.size)
    for (name, things), entry in partial:
        tables[name][entry_index(partial.size, things)] = entry
    return World(partial.signature, partial.size, tables)
