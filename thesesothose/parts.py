"""Which things of answers can be one, and with how few lots a table can fit.

Things are told by their numbers, which are put in order as marks are, and sets of them as lots.
"""

from thesesothose.answers import leads_to_lacked, must_stand
from thesesothose.blame import is_set_of
from thesesothose.lots import all_lots, joined, within, without
from thesesothose.tables import Table
from thesesothose.words import is_index


def all_numbers(answers):
    """The ascending tuple of the numbers of all things."""
    return tuple(range(len(answers)))


def joint_thing(answers, numbers):
    """All that some things have, and all that they lack, perhaps with common marks."""
    things = answers.things()
    has, lacks = (), ()
    for number in numbers:
        has = joined(has, things[number][0])
        lacks = joined(lacks, things[number][1])
    return (has, lacks)


def can_be_one(answers, numbers):
    """Whether one closed lot fits all things of a list or a tuple of numbers."""
    has, lacks = joint_thing(answers, numbers)
    return not leads_to_lacked(answers.yeses, has, lacks)


def greatest_ones(answers):
    """The list of the greatest sets of things that can be one."""
    greatest = []
    for some in all_lots(all_numbers(answers))[::-1]:
        if not any([within(some, other) for other in greatest]) and can_be_one(answers, some):
            greatest = [some, *greatest]
    return greatest


def parting(answers):
    """A list of as few sets as possible that have each thing once, and each of which can be one."""
    must_stand(answers)
    ones = greatest_ones(answers)
    numbers = all_numbers(answers)
    # All that can be reached with so many sets, each with the list of those that lead there.
    found = {(): []}
    while numbers not in found:
        found = _with_one_set_more(numbers, ones, found)
    return found[numbers]


def _with_one_set_more(numbers, ones, found):
    # Some set must have the first thing that is left; to take all of a greatest one that is left is best.
    grown = {}
    for done, sets in found.items():
        left = without(numbers, done)
        for some in ones:
            if left[0] in some:
                grown[joined(done, some)] = [*sets, without(some, done)]
    return grown


def fewest_lots(answers):
    """The number of lots that a table which fits must have."""
    return len(parting(answers))


def least_table(answers):
    """A Table that fits and has as few lots as possible."""
    lots = [answers.yeses.closing(joint_thing(answers, some)[0]) for some in parting(answers)]
    return Table(answers.marks, lots)


def is_parting(answers, thing):
    """Whether a thing, any value, is a list of sets that have each thing once, and each of which can be one."""
    if not isinstance(thing, list) or () in thing:
        return False
    if not all([is_set_of(len(answers), some) and can_be_one(answers, some) for some in thing]):
        return False
    return sorted([number for some in thing for number in some]) == list(all_numbers(answers))


def crowd(answers):
    """An ascending list of as many things as possible, no two of which can be one."""
    must_stand(answers)
    crowds = [some for some in all_lots(all_numbers(answers)) if is_crowd(answers, list(some))]
    return list(crowds[-1])


def is_crowd(answers, thing):
    """Whether a thing, any value, is a list of different things, no two of which can be one."""
    if not isinstance(thing, list) or not all([is_index(len(answers), number) for number in thing]):
        return False
    if len(set(thing)) != len(thing):
        return False
    for place, number in enumerate(thing):
        if any([can_be_one(answers, [other, number]) for other in thing[:place]]):
            return False
    return True
