"""Papers in lines from closed trees of cases."""

from worldorpaper.clauses import clause_text, make_literal, opposite, parts_in
from worldorpaper.lines import cut_lines
from worldorpaper.names import fresh_name
from worldorpaper.partial import Partial
from worldorpaper.steps import drop_step, either_step, fill_step, replace_step
from worldorpaper.terms import TOP, is_atom, part_at
from worldorpaper.trees import false_instance


def lines_of(signature, clauses, tree):
    """A paper in lines that shows what a closed tree shows."""
    partial = Partial(signature, clauses)
    maker = LineMaker(clauses)
    root = maker.node(partial, [_first_name(partial, clauses)], tree)
    return cut_lines(maker.rows[:root + 1])


class LineMaker:
    """Makes for each node a row whose literals deny what was decided on the way to it."""

    def __init__(self, clauses):
        self.rows = []
        self._clauses = clauses
        # By the text of each clause that a row has the index of this row.
        self._indexes = {}

    def node(self, partial, names, tree):
        """The index of a row for a node; names are those of the things of its partial world."""
        if tree[0] == "false":
            return self._leaf(partial, names, tree)
        cell = tree[1:3]
        side = (cell[0],) + tuple([names[thing] for thing in cell[1]])
        children = tree[3]
        if partial.signature.has_relation(cell[0]):
            row = self.node(partial.with_cell(cell, False), names, children[0])
            due = [(make_literal(True, side, TOP), True, children[1])]
        else:
            row = self.node(partial.with_cell(cell, partial.size), names + [side], children[-1])
            due = [(make_literal(True, side, name), thing, children[thing]) for thing, name in enumerate(names)]
        for literal, entry, child in due:
            if literal in self.rows[row][0]:
                other = self.node(partial.with_cell(cell, entry), names, child)
                if opposite(literal) not in self.rows[other][0]:
                    return other
                row = self._without_both(row, other, literal, side)
        return row

    def _leaf(self, partial, names, leaf):
        clause, values = false_instance(self._clauses, leaf)
        row = self._append(clause, ("given", leaf[1]))
        pairs = tuple([(name, names[thing]) for name, thing in values.items()])
        row = self._append(fill_step(clause, pairs), ("fill", row, pairs))
        found = _part_to_name(names, self.rows[row][0])
        while found is not None:
            row = self._named(partial, names, row, found)
            found = _part_to_name(names, self.rows[row][0])
        return self._dropped(row)

    def _named(self, partial, names, row, found):
        """The row in which the found part is replaced by the name of its value."""
        target, place = found
        clause = self.rows[row][0]
        part = part_at(clause[target], place)
        _, value = partial.read_term(part, {name: 0 for name in names[:1] if isinstance(name, str)})
        literal = make_literal(True, part, names[value])
        either = self._append(either_step(literal), ("either", literal))
        return self._replaced(either, literal, part, row, target, place)

    def _without_both(self, first, second, literal, side):
        """The row of two rows without a literal of the first one and its opposite in the second one."""
        target = self.rows[second][0].index(opposite(literal))
        return self._dropped(self._replaced(first, literal, side, second, target, (_index_of(side, literal),)))

    def _replaced(self, first, literal, side, second, target, place):
        """The row that puts the other side of a literal of the first row for this side in the second one."""
        one, two = self.rows[first][0], self.rows[second][0]
        index, at = one.index(literal), _index_of(side, literal)
        clause = replace_step(one, index, at, two, target, place)
        return self._append(clause, ("replace", first, index, at, second, target, place))

    def _dropped(self, row):
        return self._append(drop_step(self.rows[row][0]), ("drop", row))

    def _append(self, clause, reason):
        """The index of a row with the clause, which is a new row if there is none."""
        text = clause_text(clause)
        if text not in self._indexes:
            self._indexes[text] = len(self.rows)
            self.rows.append((clause, reason))
        return self._indexes[text]


def _first_name(partial, clauses):
    """The name of the thing 0."""
    decided = list(partial)
    if len(decided) > 0:
        cell, _ = decided[0]
        return cell[:1]
    unknowns = [part for part in parts_in(clauses) if isinstance(part, str)]
    return fresh_name("u", partial.signature.names() + unknowns)


def _part_to_name(names, clause):
    """The index of a literal and the place there of a part for which the name of its value must be put, or None."""
    for target, (sign, left, right) in enumerate(clause):
        # Such a literal just denies an entry; as it is false, the name in it is that of the value.
        denies = not sign and (left in names or right in names)
        for side, term in enumerate((left, right)):
            place = None if term == TOP else _unnamed_place(names, term)
            if place is not None and not (denies and len(place) == 0):
                return target, (side,) + place
    return None


def _unnamed_place(names, term):
    """The place of an application to names that is no name itself, nor the whole of an atom; or None."""
    if term in names:
        return None
    for index, argument in enumerate(term[1:]):
        place = _unnamed_place(names, argument)
        if place is not None:
            return (index,) + place
    return None if is_atom(term) else ()


def _index_of(side, literal):
    return 0 if literal[1] == side else 1
