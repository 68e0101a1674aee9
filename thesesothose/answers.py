"""Answers: rules to which somebody said yes, and things, told in part, that somebody has shown."""

from thesesothose.closed import closed_lots
from thesesothose.errors import Clash, NoThing, Wrong
from thesesothose.lots import common, joined, within, without
from thesesothose.rules import Rules
from thesesothose.tables import Table
from thesesothose.things import fits, told_more
from thesesothose.words import is_index, is_thing_of


def are_things_of(marks, things):
    """Whether things, any value, is a list or a tuple of things of the marks."""
    if not isinstance(things, (list, tuple)):
        return False
    return all([is_thing_of(marks, thing) for thing in things])


def leads_to_lacked(theory, has, lacks):
    """Whether the closing of what a thing has, has a mark of what it lacks."""
    return common(theory.closing(has), lacks) != ()


def never_had(theory, thing):
    """The lot of the marks that no closed lot has which fits a thing."""
    has, lacks = thing
    return tuple([mark for mark in theory.marks if leads_to_lacked(theory, joined(has, (mark,)), lacks)])


def must_stand(answers):
    """Raises Clash, with the number of the first thing that shows it, if the answers do not stand."""
    number = answers.clashing()
    if number is not None:
        raise Clash(number)


def thing_at(answers, number):
    """The thing that has a number, any value; NoThing if none has."""
    things = answers.things()
    if not is_index(len(things), number):
        raise NoThing(number)
    return things[number]


def is_against(theory, rule, thing):
    """Whether a theory leads a thing to all that stands ahead in a rule, and from there to a mark that it lacks."""
    ahead, behind = rule
    has, lacks = thing
    return within(ahead, theory.closing(has)) and leads_to_lacked(theory, joined(has, behind), lacks)


def refuted_by(answers, rule):
    """The number of the first thing that a rule, with the yeses, leads to a mark that it lacks, or None."""
    for number, thing in enumerate(answers.things()):
        if is_against(answers.yeses, rule, thing):
            return number
    return None


class Answers:
    """Rules, the yeses, and a list of things of their marks."""

    def __init__(self, yeses, things):
        if not isinstance(yeses, Rules):
            raise Wrong(0)
        if not are_things_of(yeses.marks, things):
            raise Wrong(1)
        self._yeses = yeses
        self._things = list(things)

    @property
    def marks(self):
        return self._yeses.marks

    @property
    def yeses(self):
        return self._yeses

    def things(self):
        """The list of the things."""
        return list(self._things)

    def clashing(self):
        """The number of the first thing that the yeses lead to a mark that it lacks, or None."""
        for number, (has, lacks) in enumerate(self._things):
            if leads_to_lacked(self._yeses, has, lacks):
                return number
        return None

    def stands(self):
        """Whether some table fits."""
        return self.clashing() is None

    def opens(self):
        """The list of the tuples (lot, mark) of closed lots and marks with an open rule from the one to the other."""
        must_stand(self)
        # What refutes such a rule is a thing that surely has the lot, and can not have the mark.
        told = [(self._yeses.closing(thing[0]), never_had(self._yeses, thing)) for thing in self._things]
        pairs = []
        for lot in closed_lots(self._yeses):
            refuted = [mark for reached, never in told if within(lot, reached) for mark in never]
            pairs.extend([(lot, mark) for mark in without(self.marks, lot) if mark not in refuted])
        return pairs

    def with_yes(self, rule):
        """The Answers with a further yes behind the others."""
        return Answers(self._yeses + rule, self._things)

    def without_yes(self, index):
        """The Answers without the yes that has an index, or NoRow."""
        return Answers(self._yeses.without(index), self._things)

    def with_yeses(self, rules):
        """The Answers with other Rules of the same marks in the place of the yeses."""
        if not isinstance(rules, Rules) or rules.marks != self.marks:
            raise Wrong(0)
        return Answers(rules, self._things)

    def with_thing(self, thing):
        """The Answers with a further thing behind the others."""
        if not is_thing_of(self.marks, thing):
            raise Wrong(0)
        return Answers(self._yeses, [*self._things, thing])

    def without_thing(self, number):
        """The Answers without the thing that has a number."""
        if not is_index(len(self._things), number):
            raise NoThing(number)
        return Answers(self._yeses, self._things[:number] + self._things[number + 1:])

    def with_more(self, number, more):
        """The Answers with one of the things told further."""
        thing = thing_at(self, number)
        if not is_thing_of(self.marks, more):
            raise Wrong(1)
        grown = told_more(thing, more)
        if grown is None:
            raise Wrong(1)
        return Answers(self._yeses, [*self._things[:number], grown, *self._things[number + 1:]])

    def __eq__(self, other):
        return isinstance(other, Answers) and self._yeses == other._yeses and self._things == other._things

    def __len__(self):
        return len(self._things)

    def __iter__(self):
        return iter(self._things)

    def __contains__(self, x):
        if not isinstance(x, Table) or x.marks != self.marks:
            return False
        if not all([x.keeps(row) for row in self._yeses]):
            return False
        return all([any([fits(lot, thing) for lot in x]) for thing in self._things])

    def __getitem__(self, at):
        must_stand(self)
        ahead, behind = at
        if within(behind, self._yeses.closing(ahead)):
            return "sure"
        if refuted_by(self, at) is not None:
            return "refuted"
        return "open"
