"""Tables for the functions that a form chooses."""

from worldorpaper.likeness import expanded
from worldorpaper.truth import sentence_true
from worldorpaper.worlds import thing_rows


def with_choices(world, form):
    """The world over the signature of the form, with tables that choose the least things."""
    grown = world
    for function, unknowns, name, part in form.chosen:
        entries = _least_things(grown, unknowns, name, part)
        signature = grown.signature.extended([(function, len(unknowns))])
        grown = expanded(grown, signature, {function: entries})
    return grown


def _least_things(world, unknowns, name, part):
    entries = []
    for row in thing_rows(world.size, len(unknowns)):
        entries.append(_least_thing(world, dict(zip(unknowns, row)), name, part))
    return entries


def _least_thing(world, values, name, part):
    """The least thing that makes the part true as the value of the name, or 0."""
    for thing in world.things:
        if sentence_true(world, part, {**values, name: thing}):
            return thing
    return 0
