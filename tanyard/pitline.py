"""Answers a request: a list of calls on one yard, one behind another."""

from tanyard.line import Yard
from tanyard.operations import argument_count, perform
from tanyard.refusals import Refusal


def calls_apart(calls):
    apart = []
    start = 0
    while start < len(calls):
        end = start + 1 + argument_count(calls[start])
        apart.append(calls[start:end])
        start = end
    return apart


def answer_to(yard, call):
    try:
        return perform(yard, call[0], call[1:])
    except Refusal as refusal:
        return [refusal.code]


def answers(calls):
    yard = Yard()
    laid = []
    for call in calls_apart(calls):
        answer = answer_to(yard, call)
        laid.append(len(answer))
        laid.extend(answer)
    return laid
