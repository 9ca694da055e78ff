"""All functions, classes and methods with their arguments: a right one each, and which others are refused with what.

An argument is (name, a right value, error, whether a value is right); the error is None where any value is let.
"""

from skipcounts import differences, errors, exchanges, readings, sums, texts
from tests import support

Sum = sums.Sum

ONE = Sum([("ab", 2), ("b", 3)])
OTHER = Sum([("a", 1), ("ba", -1), ("", 4)])


def letters(value="ab"):
    return ("letters", value, errors.InvalidLetters, support.is_plain_letters)


def total(name="total", value=ONE):
    return (name, value, errors.InvalidSum, support.is_plain_sum)


def text(name="text", value="abab"):
    return (name, value, errors.InvalidText, support.is_plain_text)


def text_over(name="text", value="abab", over="ab"):
    return (name, value, errors.InvalidText, support.is_plain_over(over))


def word(name="word", value="ab"):
    return (name, value, errors.InvalidWord, support.is_plain_text)


def whole(name, value, low=None, high=None):
    def fits(given):
        if not support.is_plain_whole(given):
            return False
        return (low is None or low <= given) and (high is None or given <= high)
    return (name, value, errors.InvalidNumber, fits)


def listed(name, value, fits):
    return (name, value, errors.InvalidList, fits)


def anything(name, value):
    return (name, value, None, None)


def are_terms(value):
    return type(value) is list and all(
        type(item) is tuple and len(item) == 2 and support.is_plain_text(item[0]) and support.is_plain_whole(item[1])
        for item in value)


def are_given(value):
    return type(value) is list and all(
        type(item) is tuple and len(item) == 2 and support.is_plain_text(item[0]) and len(item[0]) == 1
        and support.is_plain_sum(item[1]) for item in value)


def are_pairs(value):
    over = support.is_plain_over("ab")
    return type(value) is list and all(
        type(item) is tuple and len(item) == 2 and over(item[0]) and over(item[1]) for item in value)


def are_wholes(many):
    return lambda value: type(value) is list and len(value) == many and all(
        support.is_plain_whole(item) for item in value)


STAGE_ONE = [
    (texts.is_text, [anything("value", "ab")]),
    (texts.is_alphabet, [anything("value", "ab")]),
    (texts.is_over, [letters(), anything("value", "ab")]),
    (texts.is_ahead, [text("one", "ab"), text("other", "ba")]),
    (texts.text_number, [letters(), text_over()]),
    (texts.text_numbered, [letters(), whole("number", 9, 0, 10 ** 40)]),
    (texts.texts_of, [letters(), whole("size", 3, 0, 300)]),
    (readings.count, [word(), text()]),
    (readings.is_reading, [word(), text(), anything("value", (0, 1))]),
    (readings.reading, [word(), text(), whole("number", 2, 0, 2)]),
    (readings.reading_number, [word(), text(), listed("places", (0, 3), lambda value: value == (0, 1))]),
    (readings.used, [word(), text()]),
    (readings.counts, [letters(), whole("depth", 2, 0, 12), text("text", "abcab")]),
    (Sum, [listed("terms", [("a", 1), ("", -2)], are_terms)]),
    (ONE.terms, []),
    (ONE.degree, []),
    (ONE.worth, [text()]),
    (sums.plus, [total("one"), total("other", OTHER)]),
    (sums.times, [whole("number", -3), total()]),
    (sums.within, [total(), letters("a")]),
    (sums.parting, [total("one"), total("other", OTHER)]),
    (sums.parting_by, [total("one"), total("other", OTHER), whole("by", 2, 1)]),
    (sums.divisor, [total()]),
    (sums.worths, [letters(), whole("depth", 2, 0, 12), total()]),
    (sums.from_worths, [letters(), whole("depth", 1, 0, 12), listed("numbers", [1, 5, -2], are_wholes(3))]),
    (differences.front_part, [total(), word("word", "a")]),
    (differences.back_part, [total(), word("word", "b")]),
    (differences.summed, [whole("number", 3), listed("given", [("a", ONE), ("b", OTHER)], are_given)]),
    (differences.moved, [total(), text()]),
    (differences.unmoved, [total(), text()]),
    (exchanges.changes, [total(), text("one", "ab"), text("other", "ba")]),
    (exchanges.inner, [total()]),
    (exchanges.turn_parting, [total()]),
    (exchanges.kept_sums, [letters(), whole("depth", 2, 0, 39), listed("pairs", [("aab", "ba")], are_pairs)]),
]

CALLS = STAGE_ONE
