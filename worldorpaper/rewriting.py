"""Normal forms of sides without unknowns."""


def normal(rules, side, /):
    """The normal form of a side."""
    return _normal(rules, side, {})


def true_by(rules, clause):
    """Tells whether the rules make some literal of the clause true."""
    for sign, left, right in clause:
        if (normal(rules, left) == normal(rules, right)) == sign:
            return True
    return False


def _normal(rules, side, found):
    """The normal form of a side; found has the normal forms of second members, by the indexes of their rules."""
    # Rules can lead to the same second member again and again, so what was found once is kept.
    passed = []
    now = _with_normal_arguments(rules, side, found)
    index = _rule_for(rules, now)
    while index is not None and index not in found:
        passed.append(index)
        now = _with_normal_arguments(rules, rules[index][1], found)
        index = _rule_for(rules, now)
    result = now if index is None else found[index]
    for earlier in passed:
        found[earlier] = result
    return result


def _with_normal_arguments(rules, side, found):
    return side[:1] + tuple([_normal(rules, argument, found) for argument in side[1:]])


def _rule_for(rules, side):
    """The index of the first rule for the side, or None."""
    for index, (first, _) in enumerate(rules):
        if first == side:
            return index
    return None
