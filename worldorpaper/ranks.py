"""Orders of numbered sides, literals and clauses, and what they tell of a clause."""

from worldorpaper.ascending import place_in
from worldorpaper.clauses import other_literals
from worldorpaper.numberclauses import numbered_clause
from worldorpaper.numbering import Sides


class Ranks:
    """An order of sides that have numbers."""

    def __init__(self, order):
        self.sides = Sides()
        self._order = order
        self._ranks = {name: rank for rank, name in enumerate(order.ranking)}
        # By the numbers of the first sides.
        self._weights = []

    def is_less(self, one, other):
        """Tells whether the first side is less."""
        names = self.sides.names
        while one != other:
            difference = self._weight(one) - self._weight(other)
            if difference != 0:
                return difference < 0
            if names[one] != names[other]:
                return self._ranks[names[one]] < self._ranks[names[other]]
            one, other = self.sides.first_difference(one, other)
        return False

    def is_less_literal(self, one, other):
        """Tells whether the first literal is less."""
        greater, less = self._bag(one)
        other_greater, other_less = self._bag(other)
        if greater != other_greater:
            return self.is_less(greater, other_greater)
        if one[0] != other[0]:
            return one[0]
        return self.is_less(less, other_less)

    def is_less_clause(self, one, other):
        """Tells whether the first of two ranked clauses is less."""
        for mine, yours in zip(one.descending, other.descending):
            if mine != yours:
                return self.is_less_literal(mine, yours)
        return len(one.descending) < len(other.descending)

    def greater_side(self, literal):
        """The index of the greater side, or None if both are equal."""
        _, left, right = literal
        if left == right:
            return None
        return 0 if self.is_less(right, left) else 1

    def place_of_side(self, ascending, number):
        """The index at which a side goes into sides in ascending order."""
        return place_in(ascending, number, lambda one, other: self.is_less(one, other))

    def place_of_clause(self, ascending, ranked):
        """The index at which a ranked clause goes into such clauses in ascending order, behind an equal one."""
        return place_in(ascending, ranked, lambda one, other: self.is_less_clause(one, other))

    def descending_literals(self, clause):
        """The literals of a clause in descending order."""
        found = []
        for literal in clause:
            at = place_in(found, literal, lambda one, other: self.is_less_literal(one, other))
            found.insert(at, literal)
        return found[::-1]

    def ranked_clause(self, clause):
        """A clause, with sides instead of numbers, with what the order tells of it."""
        return RankedClause(self, numbered_clause(self.sides, clause))

    def _bag(self, literal):
        """The greater side of a literal, and then the other one."""
        _, left, right = literal
        return (right, left) if self.is_less(left, right) else (left, right)

    def _weight(self, number):
        # The arguments of a side have lower numbers, so that their weights are known first.
        while len(self._weights) <= number:
            at = len(self._weights)
            inner = sum([self._weights[argument] for argument in self.sides.arguments[at]])
            self._weights.append(self._order.weights.get(self.sides.names[at], 0) + inner)
        return self._weights[number]


class SortedSides:
    """Different numbered sides in ascending order."""

    def __init__(self, ranks):
        self.numbers = []
        self._ranks = ranks
        self._listed = {}

    def put(self, numbers):
        """Puts further sides where they go."""
        for number in numbers:
            if number not in self._listed:
                self._listed[number] = True
                self.numbers.insert(self._ranks.place_of_side(self.numbers, number), number)


class RankedClause:
    """A numbered clause with what an order tells of it."""

    def __init__(self, ranks, clause):
        self.clause = clause
        self.descending = ranks.descending_literals(clause)
        # The indexes of the greatest literal and of its greater side.
        self.head = None
        # The greater side and the other one, if the greatest literal has such, and the literals beside it.
        self.top = None
        self.second = None
        self.beside = []
        self.is_equating = False
        side = ranks.greater_side(self.descending[0]) if len(clause) > 0 else None
        if side is not None:
            index = clause.index(self.descending[0])
            self.head = (index, side)
            self.top = clause[index][1 + side]
            self.second = clause[index][2 - side]
            self.beside = other_literals(clause, index)
            self.is_equating = clause[index][0]
        self.is_rule = self.is_equating and len(clause) == 1
