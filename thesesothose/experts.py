"""Experts, who know a theory and answer rules by it."""

from thesesothose.closed import closed_lots
from thesesothose.errors import Wrong
from thesesothose.lots import in_order, without
from thesesothose.rules import Rules, breaks
from thesesothose.tables import Table
from thesesothose.things import full_thing

MANNERS = ("first", "last", "least", "part")


class Expert:
    """A theory, and the manner in which it is told that a rule does not hold."""

    def __init__(self, theory, manner):
        if not isinstance(theory, (Rules, Table)):
            raise Wrong(0)
        if manner not in MANNERS:
            raise Wrong(1)
        self._theory = theory
        self._manner = manner

    @property
    def theory(self):
        return self._theory

    @property
    def manner(self):
        return self._manner

    def __call__(self, rule):
        ahead, behind = rule
        lacked = without(behind, self._theory.closing(ahead))
        if lacked == ():
            return None
        if self._manner == "least":
            return (ahead, lacked[:1])
        if self._manner == "part":
            return (ahead, lacked)
        against = [lot for lot in shown_lots(self._theory) if breaks(lot, rule)]
        if self._manner == "first":
            return full_thing(self._theory.marks, against[0])
        return full_thing(self._theory.marks, against[-1])


def shown_lots(theory):
    """The list, in order, of the closed lots of a Rules, or of the lots of a Table."""
    if isinstance(theory, Rules):
        return closed_lots(theory)
    return in_order(theory.lots())
