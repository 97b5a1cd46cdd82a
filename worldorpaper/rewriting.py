"""Normal forms of sides without unknowns."""

from worldorpaper.numbering import Sides


def normal(rules, side, /):
    """The normal form of a side."""
    rewriter = _rewriter_of(rules)
    return rewriter.sides.listed[rewriter.normal_form(rewriter.sides.number_of(side))]


def true_by(rules, clause):
    """Tells whether the rules make some literal of the clause true."""
    rewriter = _rewriter_of(rules)
    for sign, left, right in clause:
        forms = [rewriter.normal_form(rewriter.sides.number_of(side)) for side in (left, right)]
        if (forms[0] == forms[1]) == sign:
            return True
    return False


class Rewriter:
    """Rules between numbered sides, and the normal forms that they make."""

    def __init__(self, sides):
        self.sides = sides
        # By the first members of the rules.
        self.seconds = {}
        # The normal forms of the terms that were met: those that were asked for, and what they have in them or lead to.
        self._forms = {}

    def put(self, first, second):
        """Adds a rule, or changes it; the first member was not met."""
        self.seconds[first] = second

    def drop(self, first):
        """Takes away the rule for a side, if there is one; the side was not met."""
        self.seconds.pop(first, None)

    def has_met(self, term):
        """Tells whether normal forms depend on the one of a term. None depends on that of an atom."""
        return term in self._forms

    def normal_form(self, number):
        """The normal form of a side."""
        if not self.sides.is_atom(number):
            self._find_form(number)
            return self._forms[number]
        now = self.with_normal_arguments(number)
        while now in self.seconds:
            now = self.with_normal_arguments(self.seconds[now])
        return now

    def with_normal_arguments(self, atom):
        """An atom, or TOP, with the normal forms of its arguments."""
        for argument in self.sides.arguments[atom]:
            self._find_form(argument)
        return self._flat(atom)

    def _find_form(self, term):
        """Finds the normal form of a term, and those of all terms that it leads to."""
        due = [term]
        while len(due) > 0:
            missing = self._missing(due[-1])
            if len(missing) == 0:
                due.pop()
            due.extend(missing)

    def _missing(self, term):
        """Terms whose normal forms must be found first. If there are none, that of the term is found."""
        if term in self._forms:
            return []
        missing = [argument for argument in self.sides.arguments[term] if argument not in self._forms]
        if len(missing) > 0:
            return missing
        flat = self._flat(term)
        following = flat if flat != term else self.seconds.get(term, term)
        if following != term and following not in self._forms:
            return [following]
        self._forms[term] = self._forms.get(following, term)
        return []

    def _flat(self, side):
        """A side with the normal forms of its arguments, which were found."""
        forms = [self._forms[argument] for argument in self.sides.arguments[side]]
        return self.sides.applied(self.sides.names[side], tuple(forms))


def _rewriter_of(rules):
    rewriter = Rewriter(Sides())
    for first, second in rules:
        number = rewriter.sides.number_of(first)
        if number not in rewriter.seconds:
            rewriter.put(number, rewriter.sides.number_of(second))
    return rewriter
