"""Lots that no rule of a theory is broken by together, so that each of them needs a row of its own."""

from thesesothose.closed import is_closed
from thesesothose.leastlist import known_rules
from thesesothose.lots import common, within


def shared_rule(theory, one, other):
    """A rule of the theory that both lots break, or None if they are apart.

    If both break any rule of it, they break the one from what both have to the closing of this.
    """
    ahead = common(one, other)
    behind = theory.closing(ahead)
    if within(behind, one) or within(behind, other):
        return None
    return (ahead, behind)


def are_apart(theory, one, other):
    """Whether no rule of the theory is broken by both lots."""
    return shared_rule(theory, one, other) is None


def is_bound(theory, thing, *, known=None):
    """Whether a thing, any value, is a list of lots, closed by what is known alone, any two of which are apart."""
    if not isinstance(thing, list):
        return False
    least = known_rules(theory, known)
    for lot in thing:
        if not is_closed(least, lot) or is_closed(theory, lot):
            return False
    for index, lot in enumerate(thing):
        for other in thing[:index]:
            if not are_apart(theory, lot, other):
                return False
    return True
