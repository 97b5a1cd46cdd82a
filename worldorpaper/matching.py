"""Matching, subsuming and unifying."""

from worldorpaper.clauses import clause_unknowns
from worldorpaper.terms import is_plain


def match_term(pattern, term, filling=None):
    """The filling made longer so that it turns the pattern into the term, or None."""
    found = {} if filling is None else {name: filling[name] for name in filling}
    return found if _matches(pattern, term, found) else None


def match_literal(pattern, literal, filling=None):
    """The fillings made longer so that they turn one literal into another one."""
    if pattern[0] != literal[0]:
        return []
    _, left, right = pattern
    _, first, second = literal
    results = []
    for one, other in ((first, second), (second, first)):
        found = match_term(left, one, filling)
        if found is not None and _matches(right, other, found) and found not in results:
            results.append(found)
    return results


def subsumes(first, second):
    """A filling that turns unlike literals of the first clause into unlike ones of the second, or None."""
    if len(first) > len(second):
        return None
    targets = {at: literal for at, literal in enumerate(second)}
    return _subsuming([(pattern, targets) for pattern in _most_tied_first(first)], {})


def variants(first, second):
    """Tells whether one clause becomes the other one by renaming its unknowns."""
    return len(first) == len(second) and subsumes(first, second) is not None and subsumes(second, first) is not None


def unify(*terms):
    """A most general filling that makes all terms equal, or None."""
    classes = TermClasses()
    nodes = [classes.node_of(term) for term in terms]
    for node in nodes[1:]:
        if not classes.make_equal(nodes[0], node):
            return None
    return classes.filling()


class TermClasses:
    """Classes of parts of terms that must be equal; each unknown and each other part is a node."""

    def __init__(self):
        self._nodes = []
        self._heads = []
        # For the head of a class the node of an application in the class, or None.
        self._applications = []
        self._unknowns = {}

    def node_of(self, term):
        """The node of an unknown, or a new node of an application."""
        if isinstance(term, str):
            if term not in self._unknowns:
                self._unknowns[term] = self._new_node(term, None)
            return self._unknowns[term]
        inner = [self.node_of(argument) for argument in term[1:]]
        return self._new_node((term[0], inner), len(self._nodes))

    def make_equal(self, first, second):
        """Makes two nodes equal, and all that must then be equal; tells False if two names differ there."""
        # Every round but the idle ones makes two classes one, so equal parts are not gone through again and again.
        due = [(first, second)]
        while due:
            one_node, other_node = due.pop()
            one, other = self._head(one_node), self._head(other_node)
            mine, yours = self._applications[one], self._applications[other]
            if one != other:
                self._heads[one] = other
                self._applications[other] = mine if yours is None else yours
            if one != other and mine is not None and yours is not None:
                name, inner = self._nodes[mine]
                if name != self._nodes[yours][0] or len(inner) != len(self._nodes[yours][1]):
                    return False
                due.extend(list(zip(inner, self._nodes[yours][1])))
        return True

    def filling(self):
        """The filling that makes joined nodes equal, or None if a term would have to lie inside itself."""
        values = self._values()
        if values is None:
            return None
        pairs = {name: values[self._head(node)] for name, node in self._unknowns.items()}
        return {name: pairs[name] for name in pairs if pairs[name] != name}

    def _new_node(self, content, application):
        node = len(self._nodes)
        self._nodes.append(content)
        self._heads.append(node)
        self._applications.append(application)
        return node

    def _head(self, node):
        head = node
        while self._heads[head] != head:
            head = self._heads[head]
        return head

    def _values(self):
        """For each head of a class the term that its nodes become, or None if there is no end of filling."""
        values = {}
        heads = [node for node in range(len(self._nodes)) if self._heads[node] == node]
        while len(values) < len(heads):
            known = len(values)
            for head in heads:
                value = None if head in values else self._value(head, values)
                if value is not None:
                    values[head] = value
            if len(values) == known:
                return None
        return values

    def _value(self, head, values):
        """What a class becomes, or None if this is not yet known of all classes inside."""
        application = self._applications[head]
        if application is None:
            return self._nodes[head]
        name, inner = self._nodes[application]
        heads = [self._head(node) for node in inner]
        if not all([other in values for other in heads]):
            return None
        return (name,) + tuple([values[other] for other in heads])


def _matches(pattern, term, found):
    """Tells whether the pattern can become the term; adds to the filling what is needed for it."""
    if isinstance(pattern, str):
        if pattern in found:
            return found[pattern] == term
        if not is_plain(term):
            return False
        found[pattern] = term
        return True
    if isinstance(term, str) or pattern[0] != term[0] or len(pattern) != len(term):
        return False
    for inner, argument in zip(pattern[1:], term[1:]):
        if not _matches(inner, argument, found):
            return False
    return True


def _most_tied_first(clause):
    """The literals of a clause, those first that share most unknowns with others."""
    # What these can be turned into leaves least to be tried with the others.
    names = [clause_unknowns((literal,)) for literal in clause]
    counts = {}
    for row in names:
        for name in row:
            counts[name] = counts.get(name, 0) + 1
    ties = [sum([counts[name] - 1 for name in row]) for row in names]
    return [clause[at] for at in sorted(range(len(clause)), key=lambda place: -ties[place])]


def _subsuming(rows, filling):
    """The filling made longer for rows of a pattern and its possible targets, or None."""
    if len(rows) == 0:
        return filling
    choices = [_choices(pattern, targets, filling) for pattern, targets in rows]
    if not _can_differ(choices):
        return None
    at = min(list(range(len(rows))), key=lambda row: len(choices[row]))
    for target, longer in choices[at]:
        rest = []
        for index, (pattern, targets) in enumerate(rows):
            if index != at:
                kept = [other for other, _ in choices[index] if other != target]
                rest.append((pattern, {other: targets[other] for other in kept}))
        found = _subsuming(rest, longer)
        if found is not None:
            return found
    return None


def _choices(pattern, targets, filling):
    """The pairs of a target and a longer filling that turns the pattern into it."""
    choices = []
    for target, literal in targets.items():
        choices.extend([(target, longer) for longer in match_literal(pattern, literal, filling)])
    return choices


def _can_differ(choices):
    """Tells whether each row of choices can get a target of its own."""
    owners = {}
    for row in range(len(choices)):
        if not _finds_target(row, choices, owners, {}):
            return False
    return True


def _finds_target(row, choices, owners, tried):
    """Gives a target to a row, if need be by giving other targets to their owners."""
    for target, _ in choices[row]:
        if target not in tried:
            tried[target] = True
            if target not in owners or _finds_target(owners[target], choices, owners, tried):
                owners[target] = row
                return True
    return False
