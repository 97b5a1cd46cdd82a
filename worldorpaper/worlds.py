"""Worlds: a row of things with a table for each function and relation."""

from worldorpaper.errors import BadWorld, UnknownName


class World:
    """Things from 0 on and tables that say what functions and relations make of them."""

    def __init__(self, signature, size, tables):
        if size < 1:
            raise BadWorld("the size is less than 1")
        self.signature = signature
        self.size = size
        self._tables = {}
        for name in signature.names():
            if name not in tables:
                raise BadWorld("a name has no table")
            self._tables[name] = tuple(tables[name])
            self._check_table(name)
        if len(tables) > len(self._tables):
            raise BadWorld("another name has a table")

    @classmethod
    def blank(cls, signature, size):
        """The world in which all entries are 0 and False."""
        return cls(signature, size, blank_tables(signature, size))

    @property
    def things(self):
        """The things in ascending order."""
        return tuple(range(self.size))

    def value(self, name, args):
        """The entry of a function at some things."""
        if not self.signature.has_function(name):
            raise UnknownName("there is no such function")
        return self._entry(name, args)

    def holds(self, name, args):
        """The entry of a relation at some things."""
        if not self.signature.has_relation(name):
            raise UnknownName("there is no such relation")
        return self._entry(name, args)

    def table(self, name):
        """The entries of a name."""
        if not self.signature.has(name):
            raise UnknownName("there is no such name")
        return self._tables[name]

    def with_table(self, name, entries):
        """The world with these entries of a name instead."""
        if not self.signature.has(name):
            raise UnknownName("there is no such name")
        return World(self.signature, self.size, {**self._tables, name: entries})

    def _check_table(self, name):
        entries = self._tables[name]
        if len(entries) != table_length(self.size, self.signature.arity(name)):
            raise BadWorld("a table has a wrong number of entries")
        if self.signature.has_function(name):
            for entry in entries:
                self._check_thing(entry)

    def _check_thing(self, thing):
        # True and False are not integers here, though Python counts them as such.
        if isinstance(thing, bool) or not isinstance(thing, int) or not 0 <= thing < self.size:
            raise BadWorld("there is no such thing")

    def _entry(self, name, args):
        if len(args) != self.signature.arity(name):
            raise BadWorld("there are too many or too few things")
        for thing in args:
            self._check_thing(thing)
        return self._tables[name][entry_index(self.size, args)]


def table_length(size, arity):
    """The number of tuples of so many things."""
    length = 1
    for _ in range(arity):
        length = length * size
    return length


def entry_index(size, things):
    """The index of the entry at some things in a table."""
    index = 0
    for thing in things:
        index = index * size + thing
    return index


def blank_tables(signature, size):
    """For each name a list of entries, all of which are 0 or False."""
    tables = {}
    for name, arity in signature.functions:
        tables[name] = [0] * table_length(size, arity)
    for name, arity in signature.relations:
        tables[name] = [False] * table_length(size, arity)
    return tables


def thing_rows(size, length):
    """Yields the tuples of so many things in ascending order."""
    for number in range(table_length(size, length)):
        yield row_at(size, length, number)


def row_at(size, length, number):
    """The tuple of so many things that has so many others before it in ascending order."""
    row = []
    rest = number
    for _ in range(length):
        rest, thing = divmod(rest, size)
        row.append(thing)
    return tuple(row[::-1])


def world_text(world):
    """The text of a world."""
    names = world.signature.names()
    width = max([len(name) for name in names], default=0)
    lines = [f"things {world.size}"]
    for name in names:
        lines.append(name.ljust(width) + " = " + _table_text(world, name))
    return "\n".join(lines)


def _table_text(world, name):
    if world.signature.has_function(name):
        words = [str(entry) for entry in world.table(name)]
    else:
        words = ["yes" if entry else "no" for entry in world.table(name)]
    width = max([len(word) for word in words])
    text = ""
    for count, word in enumerate(words):
        if count > 0:
            text += ", " if count % world.size == 0 else " "
        text += word.rjust(width)
    return text
