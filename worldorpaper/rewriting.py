"""Normal forms of sides without unknowns."""

from worldorpaper.terms import term_text


def normal(rules, side, /):
    """The normal form of a side."""
    return _rewriter_of(rules).normal(side)


def true_by(rules, clause):
    """Tells whether the rules make some literal of the clause true."""
    return _rewriter_of(rules).makes_true(clause)


class Rewriter:
    """Rules by the texts of their first members; sides may be nested deeper than keys are."""

    def __init__(self):
        self.rules = []
        self._seconds = {}
        # By the text of a first member that was met the normal form of it, with its text.
        self._found = {}
        # By the text of a side that was asked for its normal form.
        self._asked = {}

    def with_rule(self, first, second):
        """The same rules with a further one; what was asked for so far is not greater than its first member."""
        longer = Rewriter()
        longer.rules = self.rules + [(first, second)]
        longer._seconds = {text: self._seconds[text] for text in self._seconds}
        longer._seconds.setdefault(term_text(first), second)
        # So the first member stands in no normal form that was found, unless it is this form.
        longer._asked = {text: form for text, form in self._asked.items() if form != first}
        return longer

    def normal(self, side):
        """The normal form of a side."""
        text = repr(side)
        if text not in self._asked:
            form, _ = self._normal(side)
            self._asked[text] = form
        return self._asked[text]

    def makes_true(self, clause):
        """Tells whether the rules make some literal of a clause true."""
        for sign, left, right in clause:
            if (self.normal(left) == self.normal(right)) == sign:
                return True
        return False

    def _normal(self, side):
        # Rules can lead to the same second member again and again, so what was found once is kept.
        passed = []
        now, text = self._with_normal_arguments(side)
        while text in self._seconds and text not in self._found:
            passed.append(text)
            now, text = self._with_normal_arguments(self._seconds[text])
        result = self._found.get(text, (now, text))
        for earlier in passed:
            self._found[earlier] = result
        return result

    def _with_normal_arguments(self, side):
        """The side with the normal forms of its arguments, and a text of it."""
        if len(side) == 1:
            return side, side[0]
        forms = []
        texts = []
        for argument in side[1:]:
            form, text = self._normal(argument)
            forms.append(form)
            texts.append(text)
        return side[:1] + tuple(forms), side[0] + "(" + ", ".join(texts) + ")"


def _rewriter_of(rules):
    rewriter = Rewriter()
    for first, second in rules:
        rewriter = rewriter.with_rule(first, second)
    return rewriter
