"""The ops on two numbers."""

from reusewise.errors import Fault
from reusewise.values import in_bounds, is_whole


def reckoned(word, a, b):
    if not is_whole(a) or not is_whole(b):
        raise Fault("nonumber")
    if b == 0 and word in ("over", "rest"):
        raise Fault("nought")
    result = result_of(word, a, b)
    if not in_bounds(result):
        raise Fault("great")
    return result


def result_of(word, a, b):
    if word == "plus":
        return a + b
    if word == "minus":
        return a - b
    if word == "times":
        return a * b
    if word == "over":
        return a // b
    if word == "rest":
        return a % b
    holds = a < b if word == "less" else a == b
    return 1 if holds else 0
