"""Which yeses, or things, are wrong if answers do not stand.

Sets of yeses are told by their indexes, which are put in order as marks are, and sets of them as lots.
"""

from thesesothose.answers import leads_to_lacked, thing_at
from thesesothose.lots import all_lots, common, least_of
from thesesothose.rules import Rules
from thesesothose.words import is_index


def all_yeses(answers):
    """The ascending tuple of the indexes of all yeses."""
    return tuple(range(len(answers.yeses)))


def yeses_alone(answers, indexes):
    """The Rules of some of the yeses."""
    return Rules(answers.marks, [answers.yeses[index] for index in indexes])


def least_against(answers, things):
    """The list of the least sets of yeses that alone lead one of some things to a mark that it lacks."""
    bad = []
    for indexes in all_lots(all_yeses(answers)):
        rules = yeses_alone(answers, indexes)
        if any([leads_to_lacked(rules, has, lacks) for has, lacks in things]):
            bad.append(indexes)
    return least_of(bad)


def clashes(answers):
    """The list of the least sets of yeses with which alone the answers do not stand."""
    return least_against(answers, answers.things())


def repairs(answers):
    """The list of the least sets of yeses without which the answers stand."""
    # What is left of the yeses holds no clash just if each clash has lost one of its yeses.
    bad = clashes(answers)
    sets = all_lots(all_yeses(answers))
    return least_of([some for some in sets if all([common(some, clash) != () for clash in bad])])


def clashes_of(answers, number):
    """The list of the least sets of yeses that alone lead one thing to a mark that it lacks."""
    return least_against(answers, [thing_at(answers, number)])


def surely_wrong(answers):
    """The ascending list of the indexes of the yeses that stand in all repairs."""
    sets = repairs(answers)
    return [index for index in all_yeses(answers) if all([index in some for some in sets])]


def maybe_wrong(answers):
    """The ascending list of the indexes of the yeses that stand in some repair."""
    sets = repairs(answers)
    return [index for index in all_yeses(answers) if any([index in some for some in sets])]


def fewest_wrong(answers):
    """The first repair."""
    return repairs(answers)[0]


def wrong_things(answers):
    """The ascending list of the numbers of the things that all yeses lead to a mark that they lack."""
    return [number for number, (has, lacks) in enumerate(answers) if leads_to_lacked(answers.yeses, has, lacks)]


def is_set_of(many, thing):
    """Whether a thing, any value, is an ascending tuple of different indexes of so many items."""
    if not isinstance(thing, tuple) or not all([is_index(many, index) for index in thing]):
        return False
    return thing == tuple(sorted(set(thing)))


def is_clash(answers, thing):
    """Whether a thing, any value, is a clash."""
    return is_set_of(len(answers.yeses), thing) and thing in clashes(answers)


def is_repair(answers, thing):
    """Whether a thing, any value, is a repair."""
    return is_set_of(len(answers.yeses), thing) and thing in repairs(answers)


def are_apart_sets(answers, thing):
    """Whether a thing, any value, is a list of sets of yeses, no index in two, that each lead to a clash alone."""
    if not isinstance(thing, list) or not all([is_set_of(len(answers.yeses), some) for some in thing]):
        return False
    indexes = [index for some in thing for index in some]
    if len(set(indexes)) != len(indexes):
        return False
    return not any([answers.with_yeses(yeses_alone(answers, some)).stands() for some in thing])
