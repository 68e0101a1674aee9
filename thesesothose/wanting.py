"""What is still missing of answers until just the rules of a theory are sure and none is open."""

from thesesothose.answers import leads_to_lacked
from thesesothose.apart import is_bound
from thesesothose.closed import is_closed, narrow, next_ones
from thesesothose.closing import follows
from thesesothose.errors import NoLot, NotPossible
from thesesothose.leastlist import least_list, needy_lots
from thesesothose.lots import all_lots, common, least_of, without


def is_possible(answers, theory):
    """Whether a theory has the marks of the answers and their yeses, and bars none of their things."""
    if theory.marks != answers.marks:
        return False
    if not all([follows(theory, rule) for rule in answers.yeses]):
        return False
    return not any([leads_to_lacked(theory, has, lacks) for has, lacks in answers])


def must_be_possible(answers, theory):
    """Raises NotPossible if a theory is not possible for the answers."""
    if not is_possible(answers, theory):
        raise NotPossible()


def gap_of(theory, lot):
    """The lot of the marks that the next lot of a narrow lot has and it has not, or None for any other value."""
    if not is_closed(theory, lot):
        return None
    above = next_ones(theory, lot)
    if len(above) != 1:
        return None
    return without(above[0], lot)


def shows(theory, thing, lot):
    """Whether a lot of the marks is narrow, and a thing shows it."""
    gap = gap_of(theory, lot)
    return gap is not None and _shows_with(theory, thing, lot, gap)


def _shows_with(theory, thing, lot, gap):
    has, lacks = thing
    return theory.closing(has) == lot and common(lacks, gap) != ()


def tellings(theory, lot):
    """The list of the least things that show a narrow lot, in order."""
    gap = gap_of(theory, lot)
    if gap is None:
        raise NoLot(lot)
    starts = least_of([start for start in all_lots(lot) if theory.closing(start) == lot])
    return [(start, (mark,)) for start in starts for mark in gap]


def _unshown_gaps(answers, theory):
    # The narrow lots that no thing shows, each with its gap.
    must_be_possible(answers, theory)
    gaps = [(lot, without(above, lot)) for lot, above in narrow(theory)]
    return [(lot, gap) for lot, gap in gaps if not any([_shows_with(theory, thing, lot, gap) for thing in answers])]


def unshown(answers, theory):
    """The list of the narrow lots that no thing of the answers shows, in order."""
    return [lot for lot, _ in _unshown_gaps(answers, theory)]


def missing(answers, theory):
    """The number of answers that are missing until nothing is open and just the rules of the theory are sure."""
    return len(unshown(answers, theory)) + len(needy_lots(theory, known=answers.yeses))


def questions(answers, theory):
    """The list of as many rules to ask as answers are missing."""
    gaps = _unshown_gaps(answers, theory)
    return least_list(theory, known=answers.yeses).rows() + gaps


def is_floor(answers, theory, thing):
    """Whether a thing, any value, is a tuple of two lists of lots, for each of which an answer is missing."""
    left = unshown(answers, theory)
    if not isinstance(thing, tuple) or len(thing) != 2:
        return False
    lots, others = thing
    if not isinstance(others, list) or not all([lot in left for lot in others]):
        return False
    return len(set(others)) == len(others) and is_bound(theory, lots, known=answers.yeses)
