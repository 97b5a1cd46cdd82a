"""Names of functions, unknowns and relations."""

RESERVED = ("all", "some", "not", "and", "or", "implies", "iff", "true", "false")
LONGEST = 12


def is_small_name(name):
    """Tells whether functions and unknowns can have this name."""
    return _is_name(name) and "a" <= name[0] <= "z" and name not in RESERVED


def is_capital_name(name):
    """Tells whether relations can have this name."""
    return _is_name(name) and "A" <= name[0] <= "Z"


def fresh_name(stem, taken):
    """The stem with the least number from 1 on that makes a name that is not taken."""
    names = set(taken)
    number = 1
    while f"{stem}{number}" in names:
        number += 1
    return f"{stem}{number}"


def _is_name(name):
    return len(name) <= LONGEST and name.isascii() and name.isalnum()
