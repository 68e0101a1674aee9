"""Asking an expert, question by question."""

from thesesothose.answers import must_stand
from thesesothose.errors import TooMany
from thesesothose.lots import joined, without
from thesesothose.wanting import must_be_possible

MOST_QUESTIONS = 2000


def next_question(answers):
    """The rule to ask next, or None if none is open."""
    opens = answers.opens()
    if not opens:
        return None
    ahead = opens[0][0]
    behind = ()
    for mark in without(answers.marks, ahead):
        grown = joined(behind, (mark,))
        if answers[(ahead, grown)] != "refuted":
            behind = grown
    return (ahead, behind)


def answered(answers, rule, answer):
    """The answers behind what an expert answers to a rule."""
    must_stand(answers)
    if answer is None:
        return answers.with_yes(rule)
    return answers.with_thing(answer)


def asked(answers, expert, *, most=MOST_QUESTIONS):
    """The answers when an expert was asked all that was open, and the list of what was asked and answered."""
    must_be_possible(answers, expert.theory)
    reached = answers
    log = []
    rule = next_question(reached)
    while rule is not None:
        if len(log) == most:
            raise TooMany(most)
        answer = expert(rule)
        log.append((rule, answer))
        reached = answered(reached, rule, answer)
        rule = next_question(reached)
    return (reached, log)


def put_all(answers, expert, rules):
    """The answers when an expert was asked the rules of a list, and the list of what was asked and answered."""
    must_be_possible(answers, expert.theory)
    reached = answers
    log = []
    for rule in rules:
        answer = expert(rule)
        log.append((rule, answer))
        reached = answered(reached, rule, answer)
    return (reached, log)
