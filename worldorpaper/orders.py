"""Orders of terms and atoms."""

from worldorpaper.errors import BadOrder
from worldorpaper.ranks import Ranks, SortedSides
from worldorpaper.terms import TOP


class Order:
    """Weights for the names of a signature, and a ranking of them from the lowest to the highest."""

    LIGHTEST = 1
    HEAVIEST = 9

    def __init__(self, signature, weights, ranking):
        names = sorted(signature.names())
        if sorted(weights) != names or sorted(ranking) != names:
            raise BadOrder("the names are not those of the signature")
        for name in names:
            if not self.LIGHTEST <= weights[name] <= self.HEAVIEST:
                raise BadOrder("a weight is not in the range")
        self.weights = {name: weights[name] for name in weights}
        self.ranking = tuple(ranking)
        self._ranks = {name: rank for rank, name in enumerate(self.ranking)}

    @classmethod
    def ranked(cls, signature, ranking):
        """The order in which each name weighs 1."""
        return cls(signature, _even_weights(signature), ranking)

    def weight(self, side):
        """The weights of the names together, and 1 for each unknown."""
        if isinstance(side, str):
            return 1
        if side == TOP:
            return 0
        return self.weights[side[0]] + sum([self.weight(argument) for argument in side[1:]])

    def is_greater(self, one, other):
        """Tells whether the first side is greater."""
        if not _occur_as_often(one, other):
            return False
        difference = self.weight(one) - self.weight(other)
        if difference != 0:
            return difference > 0
        if isinstance(one, str) or isinstance(other, str):
            return False
        if one[0] != other[0]:
            return self._ranks[one[0]] > self._ranks[other[0]]
        for mine, yours in zip(one[1:], other[1:]):
            if mine != yours:
                return self.is_greater(mine, yours)
        return False

    def compare(self, one, other):
        """Returns 0 for equal sides, 1 or -1 if the first one is greater or less, and None otherwise."""
        if one == other:
            return 0
        if self.is_greater(one, other):
            return 1
        return -1 if self.is_greater(other, one) else None


def plain_order(signature):
    """The order in which each name weighs 1 and the names rank as they are listed."""
    return Order(signature, _even_weights(signature), signature.names())


def sorted_terms(order, sides):
    """Sides without unknowns in ascending order, without duplicates."""
    ranks = Ranks(order)
    found = SortedSides(ranks)
    found.put([ranks.sides.number_of(side) for side in sides])
    return [ranks.sides.listed[number] for number in found.numbers]


def _occur_as_often(one, other):
    """Tells whether each unknown occurs in the first side at least as often as in the other one."""
    counts = {}
    _count_unknowns(one, counts, 1)
    _count_unknowns(other, counts, -1)
    return all(counts[name] >= 0 for name in counts)


def _count_unknowns(side, counts, step):
    if isinstance(side, str):
        counts[side] = counts.get(side, 0) + step
        return
    for argument in side[1:]:
        _count_unknowns(argument, counts, step)


def _even_weights(signature):
    return {name: Order.LIGHTEST for name in signature.names()}
