"""Going through the worlds of a size."""

from worldorpaper.errors import BadWorld
from worldorpaper.worlds import World, table_length


def count_worlds(signature, size):
    """The number of worlds of a size."""
    count = 1
    for choices in _choices(signature, size):
        count = count * choices
    return count


def world_number(world):
    """The number of a world among those of its size."""
    number = 0
    for name, _ in world.signature.functions:
        for entry in world.table(name):
            number = number * world.size + entry
    for name, _ in world.signature.relations:
        for entry in world.table(name):
            number = number * 2 + (1 if entry else 0)
    return number


def world_at(signature, size, number):
    """The world with a number; raises BadWorld if there is none."""
    if size < 1 or not 0 <= number < count_worlds(signature, size):
        raise BadWorld("no world has the number")
    return _world_of(signature, size, _digits(number, _choices(signature, size)))


def worlds_of_size(signature, size):
    """Yields all worlds of a size in the order of their numbers."""
    choices = _choices(signature, size)
    for number in range(count_worlds(signature, size)):
        yield _world_of(signature, size, _digits(number, choices))


def _choices(signature, size):
    """The number of possible entries for each entry of a world."""
    choices = []
    for _, arity in signature.functions:
        choices.extend([size] * table_length(size, arity))
    for _, arity in signature.relations:
        choices.extend([2] * table_length(size, arity))
    return choices


def _digits(number, choices):
    """The digits of a number when the digit at each index has so many choices."""
    digits = []
    for choice in reversed(choices):
        number, digit = divmod(number, choice)
        digits.append(digit)
    return digits[::-1]


def _world_of(signature, size, digits):
    tables = {}
    start = 0
    for name, arity in signature.functions:
        end = start + table_length(size, arity)
        tables[name] = digits[start:end]
        start = end
    for name, arity in signature.relations:
        end = start + table_length(size, arity)
        tables[name] = [digit == 1 for digit in digits[start:end]]
        start = end
    return World(signature, size, tables)
