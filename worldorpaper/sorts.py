"""Sorts of things, and the finitely many cases that decide books of the kind `single`."""

from worldorpaper.errors import BadWorld, NotOfKind
from worldorpaper.kinds import functions_in, greatest_depth, is_single, relations_in
from worldorpaper.truth import book_true
from worldorpaper.worlds import World, blank_tables, table_length, thing_rows


class Outline:
    """The names that count for the cases of a book, and its depth; raises NotOfKind for a book of another kind."""

    def __init__(self, book):
        if not is_single(book):
            raise NotOfKind("the book is not of the kind `single`")
        self.facts = relations_in(book, (0,))
        self.marks = relations_in(book, (1,))
        self.standing = functions_in(book, (0,))
        # Without a named thing a case must be able to tell that there is a thing.
        least = 1 if len(self.standing) == 0 else 0
        self.depth = max(greatest_depth(book), least)

    def named_things(self, world):
        """The values of the standing constants, in the order of the first ones that name them."""
        return list({world.value(name, ()): True for name in self.standing})

    def sort_of(self, world, thing):
        """The sort of a thing."""
        return sort_of(world, self.marks, thing)

    def case_of(self, world):
        """The case in which a world lies."""
        named = self.named_things(world)
        answers = tuple([world.holds(name, ()) for name in self.facts])
        places = tuple([named.index(world.value(name, ())) for name in self.standing])
        sorts = tuple([self.sort_of(world, thing) for thing in named])
        others = [self.sort_of(world, thing) for thing in world.things if thing not in named]
        counts = [min(others.count(sort), self.depth) for sort in range(self.count_sorts())]
        return (answers, places, sorts, tuple(counts))

    def count_sorts(self):
        """The number of sorts."""
        return table_length(2, len(self.marks))

    def cases(self):
        """All cases in their order."""
        cases = []
        many = self.count_sorts()
        amounts = self.depth + 1
        count_rows = list(thing_rows(amounts, many))
        for digits in thing_rows(2, len(self.facts)):
            answers = tuple([digit == 1 for digit in digits])
            for places in _place_rows(len(self.standing)):
                named = max(places, default=-1) + 1
                for sorts in thing_rows(many, named):
                    cases.extend([(answers, places, sorts, counts) for counts in count_rows])
        return sorted([case for case in cases if case_size(case) > 0], key=lambda case: (case_size(case), case))

    def small_world(self, signature, case):
        """The world of a case that has as many things as the size of the case."""
        answers, places, sorts, counts = case
        tables = blank_tables(signature, case_size(case))
        for name, answer in zip(self.facts, answers):
            tables[name] = [answer]
        for name, place in zip(self.standing, places):
            tables[name] = [place]
        of_things = list(sorts)
        for sort, count in enumerate(counts):
            of_things.extend([sort] * count)
        for index, name in enumerate(reversed(self.marks)):
            tables[name] = [(sort >> index) & 1 == 1 for sort in of_things]
        return World(signature, len(of_things), tables)


def cases_of(book):
    """All cases of a book in their order."""
    return Outline(book).cases()


def case_of(book, world):
    """The case of a book in which a world lies."""
    return Outline(book).case_of(world)


def case_size(case):
    """The number of the named things and of those that are counted."""
    _, _, sorts, counts = case
    return len(sorts) + sum(counts)


def small_world(book, case):
    """A world in the case that has as many things as the size of the case."""
    return Outline(book).small_world(book.signature, case)


def small_worlds(book):
    """Yields the cases of a book, each with its small world."""
    outline = Outline(book)
    for case in outline.cases():
        yield case, outline.small_world(book.signature, case)


def least_case(book):
    """The first case whose small world makes the book true, with this world; or None."""
    for case, world in small_worlds(book):
        if book_true(world, book):
            return case, world
    return None


def partner(book, first, second, thing, *, picked=()):
    """The thing of the second world that answers a thing of the first one, or None."""
    outline = Outline(book)
    if outline.case_of(first) != outline.case_of(second):
        raise BadWorld("the worlds lie in different cases")
    for name in outline.standing:
        if first.value(name, ()) == thing:
            return second.value(name, ())
    for one, other in picked:
        if one == thing:
            return other
    taken = [other for _, other in picked] + outline.named_things(second)
    sort = outline.sort_of(first, thing)
    for other in second.things:
        if other not in taken and outline.sort_of(second, other) == sort:
            return other
    return None


def sort_of(world, marks, thing):
    """The number whose binary digits say which marks hold for a thing."""
    number = 0
    for name in marks:
        number = number * 2 + (1 if world.holds(name, (thing,)) else 0)
    return number


def _place_rows(count):
    """The rows of so many places in which each place is at most one greater than all before it, from 0 on."""
    rows = [()]
    for _ in range(count):
        rows = [row + (place,) for row in rows for place in range(max(row, default=-1) + 2)]
    return rows
