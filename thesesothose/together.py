"""What can be together: several rules in one table that fits, and several marks of one thing."""

from thesesothose.answers import leads_to_lacked, must_stand, never_had, thing_at
from thesesothose.lots import all_lots, least_of
from thesesothose.things import told_more


def can_hold(answers, rules):
    """Whether all rules of a list hold in one table that fits."""
    must_stand(answers)
    return answers.with_yeses(answers.yeses.with_rows(rules)).stands()


def barring(answers, rules):
    """The list of the least sets of rules of a list that cannot hold in one table, told by their indexes."""
    must_stand(answers)
    # Indexes are put in order as marks are, and sets of them as lots.
    sets = all_lots(tuple(range(len(rules))))
    barred = [some for some in sets if not can_hold(answers, [rules[index] for index in some])]
    return [list(some) for some in least_of(barred)]


def surely_has(answers, number):
    """The lot of the marks that each lot which fits a thing has in each table that fits."""
    must_stand(answers)
    return answers.yeses.closing(thing_at(answers, number)[0])


def surely_lacks(answers, number):
    """The lot of the marks that no lot which fits a thing has in any table that fits."""
    must_stand(answers)
    return never_had(answers.yeses, thing_at(answers, number))


def may(answers, number, more):
    """Whether a lot fits a thing, and a further thing, in some table that fits."""
    must_stand(answers)
    both = told_more(thing_at(answers, number), more)
    return both is not None and not leads_to_lacked(answers.yeses, both[0], both[1])
