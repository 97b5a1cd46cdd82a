"""Worlds that are alike, and worlds with fewer or more tables."""

from itertools import permutations

from worldorpaper.books import same_lists
from worldorpaper.errors import BadWorld
from worldorpaper.worlds import World, entry_index, thing_rows


def renamed(world, places):
    """The world in which each thing has become the one at its index in places."""
    if sorted(places) != list(range(world.size)):
        raise BadWorld("the places are not a renaming")
    tables = {name: _renamed_table(world, name, places) for name in world.signature.names()}
    return World(world.signature, world.size, tables)


def alike(first, second):
    """Tells whether some renaming of the first world has the tables of the second one."""
    if not same_lists(first.signature, second.signature) or first.size != second.size:
        return False
    for places in permutations(range(first.size)):
        if _compare_tables(first, places, second) == 0:
            return True
    return False


def least_form(world):
    """The renamed world with the least number."""
    least = world
    for places in permutations(range(world.size)):
        if _compare_tables(world, places, least) < 0:
            least = renamed(world, places)
    return least


def reduct(world, signature):
    """The world with the tables for the names of the signature alone."""
    _check_listed(signature, world.signature)
    tables = {name: world.table(name) for name in signature.names()}
    return World(signature, world.size, tables)


def expanded(world, signature, tables):
    """The world over the signature with further tables."""
    _check_listed(world.signature, signature)
    own = {name: world.table(name) for name in world.signature.names()}
    for name in tables:
        if name in own:
            raise BadWorld("the world has a table of the name")
    return World(signature, world.size, {**own, **tables})


def _check_listed(small, great):
    for name, arity in small.functions + small.relations:
        if not great.has(name) or great.arity(name) != arity:
            raise BadWorld("a name is not listed with the same arity")


def _renamed_table(world, name, places):
    """The entries of a name in the renamed world."""
    table = world.table(name)
    arity = world.signature.arity(name)
    entries = list(table)
    for row, entry in zip(thing_rows(world.size, arity), table):
        index = entry_index(world.size, [places[thing] for thing in row])
        entries[index] = places[entry] if world.signature.has_function(name) else entry
    return entries


def _compare_tables(world, places, other):
    """Tells whether the renamed world has the number of the other one (0), a less (-1) or a greater one (1)."""
    # Most renamings differ in an early table, so the later ones are seldom made.
    for name in world.signature.names():
        entries = _renamed_table(world, name, places)
        wanted = list(other.table(name))
        if entries != wanted:
            return -1 if entries < wanted else 1
    return 0
