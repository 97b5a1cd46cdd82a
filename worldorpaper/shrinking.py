"""Shrinking worlds of a book to the size that is enough for its kind."""

from worldorpaper.errors import BadWorld, NotOfKind
from worldorpaper.kinds import ground_terms, kinds_of, relations_in
from worldorpaper.shaping import negation_form
from worldorpaper.sorts import Outline, sort_of
from worldorpaper.truth import book_true, sentence_true, term_value
from worldorpaper.worlds import World, blank_tables, entry_index, thing_rows


def shrink(book, kind, world):
    """A world of the book that has at most as many things as are enough for the kind."""
    if kind not in kinds_of(book):
        raise NotOfKind("the book is not of the kind")
    if not book_true(world, book):
        raise BadWorld("a sentence of the book is false in the world")
    if kind == "prefix":
        return cut_world(world, _things_for_prefix(book, world))
    if kind == "single":
        return cut_world(world, _things_for_single(book, world))
    if kind == "linked":
        return _world_of_sorts(book, world)
    return cut_world(world, list(world.things))


def cut_world(world, things):
    """The world of some things of a world, which are listed in ascending order."""
    places = {thing: place for place, thing in enumerate(things)}
    tables = {}
    for name in world.signature.names():
        arity = world.signature.arity(name)
        rows = [[things[place] for place in row] for row in thing_rows(len(things), arity)]
        if world.signature.has_function(name):
            tables[name] = [places.get(world.value(name, row), 0) for row in rows]
        else:
            tables[name] = [world.holds(name, row) for row in rows]
    return World(world.signature, len(things), tables)


def _things_for_prefix(book, world):
    """The values of the ground terms and the witnesses, or the thing 0 if there are neither."""
    found = [term_value(world, term, {}) for term in ground_terms(book)]
    for sentence in book.sentences:
        found.extend(_witnesses(world, negation_form(sentence), {}))
    return sorted(set(found)) if len(found) > 0 else [0]


def _witnesses(world, form, values):
    """The things that show why a negation form is true at the values."""
    word = form[0]
    if word == "and":
        return _witnesses(world, form[1], values) + _witnesses(world, form[2], values)
    if word == "or":
        return _witnesses(world, form[1] if sentence_true(world, form[1], values) else form[2], values)
    if word != "some":
        return []
    for thing in world.things:
        further = {**values, form[1]: thing}
        if sentence_true(world, form[2], further):
            return [thing] + _witnesses(world, form[2], further)
    return []


def _things_for_single(book, world):
    """The named things, and of each sort the least others, as many as the depth of the book."""
    outline = Outline(book)
    named = outline.named_things(world)
    taken = []
    others = {}
    for thing in world.things:
        sort = outline.sort_of(world, thing)
        if thing in named:
            taken.append(thing)
        elif others.get(sort, 0) < outline.depth:
            others[sort] = others.get(sort, 0) + 1
            taken.append(thing)
    return taken


def _world_of_sorts(book, world):
    """The world whose things are the sorts that occur in a world."""
    signature = world.signature
    marks = relations_in(book, (1,))
    sorts = [sort_of(world, marks, thing) for thing in world.things]
    # The thing of the result for each sort, in the order of the least things that have them.
    places = {}
    for sort in sorts:
        places.setdefault(sort, len(places))
    own = [places[sort] for sort in sorts]
    tables = blank_tables(signature, len(places))
    for name in signature.constants():
        tables[name] = [own[world.value(name, ())]]
    for name, arity in signature.relations:
        table = world.table(name)
        for row, entry in zip(thing_rows(world.size, arity), table):
            if entry:
                tables[name][entry_index(len(places), [own[thing] for thing in row])] = True
    return World(signature, len(places), tables)
