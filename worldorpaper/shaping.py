"""Negation forms, and the steps that change a sentence at a place."""

from worldorpaper.errors import BadStep
from worldorpaper.insides import first_place, parts_down_to, put_part
from worldorpaper.names import is_small_name
from worldorpaper.sentences import BASIC, BINDERS, bound_names, fill_sentence, free_unknowns, is_free

DUALS = {"all": "some", "some": "all", "and": "or", "or": "and"}
MOST_ARGUMENTS = 3


def negation_form(sentence):
    """The sentence without `implies` and `iff`, and with `not` before basic sentences only."""
    return _form(sentence, True)


def step_result(word, sentence, place, name=""):
    """The sentence after a step; raises BadStep if the step cannot be taken."""
    if word not in STEPS:
        raise BadStep("there is no such step")
    step = STEPS[word]
    parts = parts_down_to(sentence, place)
    if len(parts) == 0:
        raise BadStep("no part stands at the place")
    part = step(parts, name)
    if part is None:
        raise BadStep("the step cannot be taken")
    return put_part(sentence, place, part)


def negation_steps(sentence):
    """Yields the steps to the negation form."""
    now = sentence
    place = first_place(now, _is_unshaped)
    while place is not None:
        word = parts_down_to(now, place)[-1][0]
        now = step_result(word, now, place)
        yield word, place, now
        # No step can be taken before the place, now as before.
        place = first_place(now, _is_unshaped, place)


def narrowing_steps(sentence):
    """Yields the steps `narrow` until there is none."""
    now = sentence
    place = first_place(now, _is_wide)
    while place is not None:
        now = step_result("narrow", now, place)
        yield "narrow", place, now
        # Before the place, a step can have become possible directly above it alone.
        start = place[:-1] if place[-1:] == (0,) else place
        place = first_place(now, _is_wide, start)


def _form(sentence, sign):
    """The negation form of a sentence or, if the sign is False, of its opposite."""
    word = sentence[0]
    if word in BASIC:
        return sentence if sign else ("not", sentence)
    if word == "not":
        return _form(sentence[1], not sign)
    if word in BINDERS:
        return (word if sign else DUALS[word], sentence[1], _form(sentence[2], sign))
    first, second = sentence[1:]
    if word == "implies":
        return ("or" if sign else "and", _form(first, not sign), _form(second, sign))
    if word == "iff":
        there, back = ("implies", first, second), ("implies", second, first)
        return ("and" if sign else "or", _form(there, sign), _form(back, sign))
    return (word if sign else DUALS[word], _form(first, sign), _form(second, sign))


def _is_unshaped(part):
    return part[0] in ("implies", "iff") or part[0] == "not" and part[1][0] not in BASIC


def _is_wide(part):
    return _narrowed(part) is not None


# Each of the seven steps takes the parts from the sentence down to its own one, and a name.
# It makes what stands there afterwards, or None if it cannot be taken.


def _implies(parts, _):
    word, *inner = parts[-1]
    if word != "implies":
        return None
    first, second = inner
    return ("or", ("not", first), second)


def _iff(parts, _):
    word, *inner = parts[-1]
    if word != "iff":
        return None
    first, second = inner
    return ("and", ("implies", first, second), ("implies", second, first))


def _not(parts, _):
    part = parts[-1]
    if part[0] != "not" or part[1][0] in BASIC:
        return None
    word, *inner = part[1]
    if word == "not":
        return inner[0]
    first, second = inner
    if word in BINDERS:
        return (DUALS[word], first, ("not", second))
    if word == "implies":
        return ("and", first, ("not", second))
    if word == "iff":
        return ("or", ("and", first, ("not", second)), ("and", second, ("not", first)))
    return (DUALS[word], ("not", first), ("not", second))


def _narrow(parts, _):
    return _narrowed(parts[-1])


def _narrowed(part):
    """What stands for a binder and its part when the binder is moved inward, or None."""
    if part[0] not in BINDERS:
        return None
    word, name, inner = part
    if not is_free(name, inner):
        return inner
    if inner[0] not in ("and", "or"):
        return None
    pair, first, second = inner
    if word == "all" and pair == "and":
        return ("and", ("all", name, first), ("all", name, second))
    if not is_free(name, first):
        return (pair, first, (word, name, second))
    if not is_free(name, second):
        return (pair, (word, name, first), second)
    return None


def _apart(parts, name):
    part = parts[-1]
    if part[0] not in BINDERS or not is_small_name(name):
        return None
    if is_free(name, part) or name in bound_names(part):
        return None
    word, old, inner = part
    return (word, name, fill_sentence(inner, {old: name}))


def _choose(parts, name):
    part = parts[-1]
    if part[0] != "some" or not _are_words(parts[:-1], ("and", "or", "all")) or not is_small_name(name):
        return None
    _, chosen, inner = part
    unknowns = free_unknowns(part)
    bound = bound_names(inner)
    if len(unknowns) > MOST_ARGUMENTS or any([unknown in bound for unknown in unknowns + [chosen]]):
        return None
    return fill_sentence(inner, {chosen: (name,) + tuple(unknowns)})


def _free(parts, _):
    part = parts[-1]
    if part[0] != "all" or not _are_words(parts[:-1], ("and", "or")) or is_free(part[1], parts[0]):
        return None
    return part[2]


def _are_words(parts, words):
    return all(part[0] in words for part in parts)


STEPS = {
    "implies": _implies, "iff": _iff, "not": _not, "narrow": _narrow, "apart": _apart, "choose": _choose, "free": _free,
}
