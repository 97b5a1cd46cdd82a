"""Numbers for sides without unknowns.

Equal sides have the same number, so that they are found and compared at once. What is done with numbers never calls
itself once more for each level of a deep side.
"""

from worldorpaper.names import is_capital_name
from worldorpaper.terms import TOP

# The number of TOP among any sides.
NUMBER_OF_TOP = 0


class Sides:
    """Sides without unknowns by their numbers; the arguments of a side have lower numbers than the side."""

    def __init__(self):
        self.listed = []
        self.names = []
        self.arguments = []
        # For each side the sides that have it as an argument.
        self._holders = []
        self._atoms = []
        self._numbers = {}
        self.applied(TOP[0], ())

    def applied(self, name, arguments):
        """The number of the side of a name and numbered arguments."""
        key = (name, arguments)
        if key not in self._numbers:
            number = len(self.listed)
            self._numbers[key] = number
            self.listed.append((name,) + tuple([self.listed[argument] for argument in arguments]))
            self.names.append(name)
            self.arguments.append(arguments)
            self._holders.append([])
            self._atoms.append(is_capital_name(name))
            for argument in arguments:
                self._holders[argument].append(number)
        return self._numbers[key]

    def found(self, name, arguments):
        """The same number, or None if the side has none so far."""
        return self._numbers.get((name, arguments))

    def number_of(self, side):
        """The number of a side."""
        due = [(side, False)]
        done = []
        while len(due) > 0:
            part, is_entered = due.pop()
            if is_entered:
                first = len(done) - len(part) + 1
                arguments = tuple(done[first:])
                del done[first:]
                done.append(self.applied(part[0], arguments))
            else:
                due.append((part, True))
                due.extend([(argument, False) for argument in reversed(part[1:])])
        return done[0]

    def filled(self, side, numbers):
        """The number of a side with unknowns, given the numbers of the sides that are put for them."""
        if isinstance(side, str):
            return numbers[side]
        return self.applied(side[0], tuple([self.filled(argument, numbers) for argument in side[1:]]))

    def is_atom(self, number):
        """Tells whether a side is an atom."""
        return self._atoms[number]

    def parts_of(self, numbers):
        """The parts of some sides, without duplicates."""
        return _reached(numbers, self.arguments)

    def holders_of(self, number):
        """The sides that have a side as a part."""
        return _reached([number], self._holders)

    def first_place(self, part, whole):
        """The first place in preorder of a part in a side, or None."""
        way = [whole]
        # For each side on the way the number of its arguments that were looked at, and all sides that were left.
        looked_at = [0]
        left = {}
        while len(way) > 0 and way[-1] != part:
            arguments = self.arguments[way[-1]]
            index = looked_at[-1]
            if index == len(arguments):
                looked_at.pop()
                left[way.pop()] = True
            else:
                looked_at[-1] += 1
                # The sides that have the part have no lower numbers.
                if arguments[index] >= part and arguments[index] not in left:
                    way.append(arguments[index])
                    looked_at.append(0)
        return tuple([count - 1 for count in looked_at[:-1]]) if len(way) > 0 else None

    def replaced(self, whole, place, part):
        """The number of a side with another part at a place."""
        way = [whole]
        for index in place:
            way.append(self.arguments[way[-1]][index])
        number = part
        for index, holder in reversed(list(zip(place, way))):
            arguments = self.arguments[holder]
            number = self.applied(self.names[holder], arguments[:index] + (number,) + arguments[index + 1:])
        return number

    def first_difference(self, one, other):
        """The first arguments in which two different sides of the same name differ."""
        pairs = [(mine, yours) for mine, yours in zip(self.arguments[one], self.arguments[other]) if mine != yours]
        return pairs[0]

    def is_text_less(self, one, other):
        """Tells whether the text of the first side is less."""
        # Every sign behind a name is less than all signs in names, so the first names that differ decide.
        while one != other:
            if self.names[one] != self.names[other]:
                return self.names[one] < self.names[other]
            one, other = self.first_difference(one, other)
        return False


def _reached(numbers, steps):
    """The numbers that are reached from some numbers by any steps, these numbers included."""
    found = {}
    due = list(numbers)
    while len(due) > 0:
        number = due.pop()
        if number not in found:
            found[number] = True
            due.extend(steps[number])
    return list(found)
