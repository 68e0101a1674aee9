"""The list with the fewest rows that gives a theory above known Rules."""

from thesesothose.closed import closed_lots
from thesesothose.closing import broken, follows
from thesesothose.lots import within, without
from thesesothose.rules import Rules, are_rules_of


def known_rules(theory, known):
    """The known Rules, or those without rows where None is told."""
    if known is None:
        return Rules(theory.marks, [])
    return known


def needy_pairs(theory, known):
    """The list of the tuples of a needy lot and its closing by the theory, in order."""
    pairs = []
    for lot in closed_lots(known_rules(theory, known)):
        reached = theory.closing(lot)
        if reached != lot and all([within(end, lot) for start, end in pairs if within(start, lot)]):
            pairs.append((lot, reached))
    return pairs


def needy_lots(theory, *, known=None):
    """The list of the needy lots, in order."""
    return [lot for lot, _ in needy_pairs(theory, known)]


def least_list(theory, *, known=None):
    """The Rules with one row for each needy lot, in order, that give the theory with those that are known."""
    return Rules(theory.marks, [(lot, without(reached, lot)) for lot, reached in needy_pairs(theory, known)])


def gives(theory, other, *, known=None):
    """Whether the rows of other and those that are known have just the closed lots of the theory."""
    return closed_lots(known_rules(theory, known) | other) == closed_lots(theory)


def needers(theory, other, *, known=None):
    """The dict from the needy lots to the indexes of the rows of other that each of them breaks."""
    return {lot: broken(other, lot) for lot in needy_lots(theory, known=known)}


def is_least(theory, thing, *, known=None):
    """Whether a thing, any value, is a list of as few rules of the theory as can be that gives it."""
    if not isinstance(thing, list) or not are_rules_of(theory.marks, thing):
        return False
    if not all([follows(theory, rule) for rule in thing]):
        return False
    if len(thing) != len(needy_lots(theory, known=known)):
        return False
    return gives(theory, Rules(theory.marks, thing), known=known)
