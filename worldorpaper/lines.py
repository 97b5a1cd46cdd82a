"""Papers in lines: judging them, cutting them, and what is given in them."""

from worldorpaper.errors import BadSentence, BadStep, BadTerm
from worldorpaper.steps import drop_step, either_step, factor_step, fill_step, replace_step
from worldorpaper.terms import TOP, is_atom, unknowns_of

# Where the indexes of rows stand in a reason.
ROW_INDEXES = {"given": (), "fill": (1,), "drop": (1,), "factor": (1,), "replace": (1, 4), "either": ()}


def first_wrong(signature, given, rows):
    """The index of the first row that is not right, or None."""
    before = []
    for index, row in enumerate(rows):
        clause, reason = row
        if not _makes(signature, given, before, reason, clause):
            return index
        before.append(clause)
    return None


def judge_lines(signature, given, rows):
    """Tells whether the rows show that no world makes all given clauses true."""
    if len(rows) == 0 or rows[-1][0] != ():
        return False
    return first_wrong(signature, given, rows) is None


def cut_lines(rows):
    """The last row and the rows that it needs, with new indexes."""
    needed = _needed_rows(rows)
    new_indexes = {old: new for new, old in enumerate(needed)}
    cut = []
    for index in needed:
        clause, reason = rows[index]
        cut.append((clause, renumbered(reason, new_indexes)))
    return cut


def given_used(rows):
    """The indexes in the reasons `given`, ascending, without duplicates."""
    return sorted(set([reason[1] for _, reason in rows if reason[0] == "given"]))


def _makes(signature, given, before, reason, clause):
    try:
        return _result(signature, given, before, reason) == clause
    except (BadStep, BadTerm, BadSentence):
        return False


def _result(signature, given, before, reason):
    """The clause that a reason makes; raises BadStep, BadTerm or BadSentence if it cannot be taken."""
    word = reason[0]
    if word == "given":
        return _at(given, reason[1])
    if word == "fill":
        return _fill_result(signature, _at(before, reason[1]), reason[2])
    if word == "drop":
        return drop_step(_at(before, reason[1]))
    if word == "factor":
        _, row, index, side, target, target_side = reason
        return factor_step(_at(before, row), index, side, target, target_side)
    if word == "replace":
        _, first, index, side, second, target, place = reason
        return replace_step(_at(before, first), index, side, _at(before, second), target, place)
    if word == "either":
        return _either_result(signature, reason[1])
    raise BadStep("there is no such reason")


def _at(clauses, index):
    if not 0 <= index < len(clauses):
        raise BadStep("there is no clause with the index")
    return clauses[index]


def _fill_result(signature, clause, pairs):
    filled = fill_step(clause, pairs)
    for _, term in pairs:
        signature.check_term(term, unknowns_of(term))
    return filled


def _either_result(signature, literal):
    made = either_step(literal)
    for side in literal[1:]:
        if is_atom(side):
            signature.check_sentence(("holds", side), unknowns_of(side))
        elif side != TOP:
            signature.check_term(side, unknowns_of(side))
    return made


def _needed_rows(rows):
    needed = {}
    for index in reversed(range(len(rows))):
        if len(needed) == 0 or index in needed:
            needed[index] = True
            reason = rows[index][1]
            for at in ROW_INDEXES[reason[0]]:
                needed[reason[at]] = True
    return sorted(needed)


def renumbered(reason, new_indexes):
    """The reason with a new index for each row that it names."""
    at_rows = ROW_INDEXES[reason[0]]
    return tuple([new_indexes[part] if at in at_rows else part for at, part in enumerate(reason)])
