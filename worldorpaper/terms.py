"""Terms, atoms, their places, parts, fillings and texts."""

from worldorpaper.errors import BadPlace

TOP = ("",)


def places_of(term):
    """The places of a term in preorder."""
    places = [()]
    for index, argument in enumerate(_arguments(term)):
        places.extend([(index,) + place for place in places_of(argument)])
    return places


def part_at(term, place):
    """The part of a term at a place; raises BadPlace if the place does not lie in the term."""
    part = term
    for index in place:
        _check_index(part, index)
        part = part[index + 1]
    return part


def replace_at(term, place, part):
    """The term with the part at a place replaced; raises BadPlace as part_at does."""
    if len(place) == 0:
        return part
    index = place[0]
    _check_index(term, index)
    argument = replace_at(term[index + 1], place[1:], part)
    return term[:index + 1] + (argument,) + term[index + 2:]


def parts_of(term):
    """The parts of a term in the order of their first places."""
    # A list and not a dict finds the duplicates, as terms may nest deeper than keys do.
    parts = []
    for part in _all_parts(term):
        if part not in parts:
            parts.append(part)
    return parts


def unknowns_of(term):
    """The unknowns of a term in order of first occurrence."""
    found = {}
    for part in _all_parts(term):
        if isinstance(part, str):
            found[part] = True
    return list(found)


def term_size(term):
    """The number of unknowns and names in a term, repeats included."""
    return len(_all_parts(term))


def fill_term(term, filling):
    """The term with all unknowns of the filling replaced at once."""
    if isinstance(term, str):
        return filling.get(term, term)
    return term[:1] + tuple([fill_term(argument, filling) for argument in term[1:]])


def term_text(term):
    """The text of a term, an atom or TOP."""
    if isinstance(term, str):
        return term
    if term == TOP:
        return "true"
    if len(term) == 1:
        return term[0]
    # Loops nest less deep than comprehensions do, and the road of fillings makes deep terms.
    texts = []
    for argument in term[1:]:
        texts.append(term_text(argument))
    return term[0] + "(" + ", ".join(texts) + ")"


def is_plain(term):
    """Tells whether something is a term that contains neither an atom nor TOP."""
    if isinstance(term, str):
        return True
    if not _is_named(term) or _begins_capital(term[0]):
        return False
    for argument in term[1:]:
        if not is_plain(argument):
            return False
    return True


def is_atom(side):
    """Tells whether something is an atom of plain terms."""
    return _is_named(side) and _begins_capital(side[0]) and all([is_plain(argument) for argument in side[1:]])


def _arguments(term):
    if isinstance(term, str):
        return ()
    return term[1:]


def _check_index(part, index):
    if not 0 <= index < len(_arguments(part)):
        raise BadPlace("the place does not lie in the term")


def _all_parts(term):
    parts = [term]
    for argument in _arguments(term):
        parts.extend(_all_parts(argument))
    return parts


def _is_named(side):
    # Papers are judged with any parts, so this looks before it reads. TOP has no name.
    return isinstance(side, tuple) and len(side) > 0 and isinstance(side[0], str) and len(side[0]) > 0


def _begins_capital(name):
    return "A" <= name[:1] <= "Z"
