"""Terms, atoms, their places, parts, fillings and texts."""

from worldorpaper.errors import BadPlace

TOP = ("",)


def places_of(term):
    """The places of a term in preorder."""
    places = [()]
    for index, argument in enumerate(_arguments(term)):
        places.extend([(index,) + place for place in places_of(argument)])
    return places


def part_at(term, place):
    """The part of a term at a place; raises BadPlace if the place does not lie in the term."""
    part = term
    for index in place:
        _check_index(part, index)
        part = part[index + 1]
    return part


def replace_at(term, place, part):
    """The term with the part at a place replaced; raises BadPlace as part_at does."""
    way = [term]
    for index in place:
        _check_index(way[-1], index)
        way.append(way[-1][index + 1])
    replaced = part
    for index, holder in reversed(list(zip(place, way))):
        replaced = holder[:index + 1] + (replaced,) + holder[index + 2:]
    return replaced


def parts_of(term):
    """The parts of a term in the order of their first places."""
    # A list and not a dict finds the duplicates, as terms may nest deeper than keys do.
    parts = []
    for part in _all_parts(term):
        if part not in parts:
            parts.append(part)
    return parts


def unknowns_of(term):
    """The unknowns of a term in order of first occurrence."""
    found = {}
    for part in _all_parts(term):
        if isinstance(part, str):
            found[part] = True
    return list(found)


def term_size(term):
    """The number of unknowns and names in a term, repeats included."""
    return len(_all_parts(term))


def fill_term(term, filling):
    """The term with all unknowns of the filling replaced at once."""
    if isinstance(term, str):
        return filling.get(term, term)
    return term[:1] + tuple([fill_term(argument, filling) for argument in term[1:]])


def term_text(term):
    """The text of a term, an atom or TOP."""
    texts = []
    # Terms and texts that are due, the next one last; a text is written as an unknown is.
    due = [term]
    while len(due) > 0:
        part = due.pop()
        if isinstance(part, str):
            texts.append(part)
        elif part == TOP:
            texts.append("true")
        elif len(part) == 1:
            texts.append(part[0])
        else:
            texts.append(part[0] + "(")
            due.append(")")
            for argument in part[:1:-1]:
                due.extend([argument, ", "])
            due.append(part[1])
    return "".join(texts)


def is_plain(term):
    """Tells whether something is a term that contains neither an atom nor TOP."""
    due = [term]
    while len(due) > 0:
        part = due.pop()
        if not isinstance(part, str):
            if not _is_named(part) or _begins_capital(part[0]):
                return False
            due.extend(part[1:])
    return True


def is_atom(side):
    """Tells whether something is an atom of plain terms."""
    return _is_named(side) and _begins_capital(side[0]) and all([is_plain(argument) for argument in side[1:]])


def _arguments(term):
    if isinstance(term, str):
        return ()
    return term[1:]


def _check_index(part, index):
    if not 0 <= index < len(_arguments(part)):
        raise BadPlace("the place does not lie in the term")


def _all_parts(term):
    """The parts of a term in preorder, duplicates included."""
    # The road of fillings makes terms that are nested deeper than calls can be.
    parts = []
    due = [term]
    while len(due) > 0:
        part = due.pop()
        parts.append(part)
        due.extend(_arguments(part)[::-1])
    return parts


def _is_named(side):
    # Papers are judged with any parts, so this looks before it reads. TOP has no name.
    return isinstance(side, tuple) and len(side) > 0 and isinstance(side[0], str) and len(side[0]) > 0


def _begins_capital(name):
    return "A" <= name[:1] <= "Z"
