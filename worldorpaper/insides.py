"""The places in sentences and the parts that stand there."""

from worldorpaper.sentences import BINDERS, inner_sentences


def parts_down_to(sentence, place):
    """The parts from the whole sentence down to the place, or an empty list if no part stands there."""
    parts = [sentence]
    for index in place:
        inner = inner_sentences(parts[-1])
        if not 0 <= index < len(inner):
            return []
        parts.append(inner[index])
    return parts


def put_part(sentence, place, part):
    """The sentence with the part at a place replaced."""
    if len(place) == 0:
        return part
    at = place[0] + (2 if sentence[0] in BINDERS else 1)
    return sentence[:at] + (put_part(sentence[at], place[1:], part),) + sentence[at + 1:]


def first_place(sentence, is_sought, start=()):
    """The first place in preorder, not before the start, of a part that is sought, or None."""
    return _first_below(sentence, (), is_sought, start)


def first_binder(sentence, word):
    """The first place in preorder of a binder with the word, or None."""
    return first_place(sentence, lambda part: part[0] == word)


def binder_places(sentence):
    """The places of all binders in preorder."""
    places = [()] if sentence[0] in BINDERS else []
    for index, inner in enumerate(inner_sentences(sentence)):
        places.extend([(index,) + place for place in binder_places(inner)])
    return places


def _first_below(part, place, is_sought, start):
    # Tuples compare as places follow one another in preorder.
    if place >= start and is_sought(part):
        return place
    for index, inner in enumerate(inner_sentences(part)):
        below = place + (index,)
        if below >= start[:len(below)]:
            found = _first_below(inner, below, is_sought, start)
            if found is not None:
                return found
    return None
