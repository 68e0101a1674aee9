"""Papers: what shows of a rule that it is sure, refuted or open."""

from thesesothose.answers import must_stand, refuted_by
from thesesothose.deriving import derivation, is_derivation
from thesesothose.lots import common, joined
from thesesothose.tables import Table
from thesesothose.words import is_index


def holding(answers, rule):
    """The Table of what the yeses and a rule lead each thing to, or None if the rule is refuted."""
    must_stand(answers)
    table = Table(answers.marks, closed_things(answers.yeses + rule, answers))
    return table if table in answers else None


def failing(answers, rule):
    """The Table of what the yeses lead each thing and the ahead of a rule to, or None if the rule is sure."""
    must_stand(answers)
    table = Table(answers.marks, closed_things(answers.yeses, answers)) + answers.yeses.closing(rule[0])
    return None if table.keeps(rule) else table


def closed_things(theory, answers):
    """The list of the closings of what each thing has."""
    return [theory.closing(thing[0]) for thing in answers]


def paper(answers, rule):
    """The word for a rule, and what shows it."""
    word = answers[rule]
    if word == "sure":
        return (word, derivation(answers.yeses, rule))
    if word == "refuted":
        return _refutation(answers, rule)
    return (word, holding(answers, rule), failing(answers, rule))


def _refutation(answers, rule):
    number = refuted_by(answers, rule)
    has, lacks = answers.things()[number]
    grown = joined(has, rule[1])
    mark = common(lacks, answers.yeses.closing(grown))[0]
    to_ahead = derivation(answers.yeses, (has, rule[0]))
    to_mark = derivation(answers.yeses, (grown, (mark,)))
    return ("refuted", number, to_ahead, to_mark, mark)


def is_paper(answers, rule, thing):
    """Whether a thing, any value, shows of a rule what its word says."""
    must_stand(answers)
    if not isinstance(thing, tuple) or thing == ():
        return False
    word = thing[0]
    if word == "sure":
        return len(thing) == 2 and is_derivation(answers.yeses, rule, thing[1])
    if word == "refuted":
        return len(thing) == 5 and _is_refutation(answers, rule, thing)
    if word == "open":
        return len(thing) == 3 and _is_open(answers, rule, thing)
    return False


def _is_refutation(answers, rule, thing):
    _, number, to_ahead, to_mark, mark = thing
    if not is_index(len(answers), number):
        return False
    has, lacks = answers.things()[number]
    if mark not in lacks or not is_derivation(answers.yeses, (has, rule[0]), to_ahead):
        return False
    return is_derivation(answers.yeses, (joined(has, rule[1]), (mark,)), to_mark)


def _is_open(answers, rule, thing):
    _, one, other = thing
    return one in answers and other in answers and one.keeps(rule) and not other.keeps(rule)
