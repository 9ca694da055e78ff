"""All functions, classes and methods with their arguments: a right one each, and which others are refused with what.

An argument is (name, a right value, error, whether a value is right); the error is None where any value is let.
"""

from skipcounts import alike, differences, errors, exchanges, legal, primes, products, readings, rules, sums, tables
from skipcounts import texts
from tests import support

Sum = sums.Sum
Table = tables.Table

ONE = Sum([("ab", 2), ("b", 3)])
OTHER = Sum([("a", 1), ("ba", -1), ("", 4)])
TABLE = tables.table_of("ab", 2, "abAab")
GROWN, SWAP = [("a", "ab"), ("b", "a")], [("a", "b"), ("b", "a")]


def letters(value="ab"):
    return ("letters", value, errors.InvalidLetters, support.is_plain_letters)


def total(name="total", value=ONE):
    return (name, value, errors.InvalidSum, support.is_plain_sum)


def text(name="text", value="abab"):
    return (name, value, errors.InvalidText, support.is_plain_text)


def text_over(name="text", value="abab", over="ab"):
    return (name, value, errors.InvalidText, support.is_plain_over(over))


def word(name="word", value="ab"):
    return (name, value, errors.InvalidWord, support.is_plain_text)


def whole(name, value, low=None, high=None):
    def fits(given):
        if not support.is_plain_whole(given):
            return False
        return (low is None or low <= given) and (high is None or given <= high)
    return (name, value, errors.InvalidNumber, fits)


def listed(name, value, fits):
    return (name, value, errors.InvalidList, fits)


def anything(name, value):
    return (name, value, None, None)


def are_terms(value):
    return type(value) is list and all(
        type(item) is tuple and len(item) == 2 and support.is_plain_text(item[0]) and support.is_plain_whole(item[1])
        for item in value)


def are_given(value):
    return type(value) is list and all(
        type(item) is tuple and len(item) == 2 and support.is_plain_text(item[0]) and len(item[0]) == 1
        and support.is_plain_sum(item[1]) for item in value)


def are_pairs(value):
    over = support.is_plain_over("ab")
    return type(value) is list and all(
        type(item) is tuple and len(item) == 2 and over(item[0]) and over(item[1]) for item in value)


def are_wholes(many):
    return lambda value: type(value) is list and len(value) == many and all(
        support.is_plain_whole(item) for item in value)


STAGE_ONE = [
    (texts.is_text, [anything("value", "ab")]),
    (texts.is_alphabet, [anything("value", "ab")]),
    (texts.is_over, [letters(), anything("value", "ab")]),
    (texts.is_ahead, [text("one", "ab"), text("other", "ba")]),
    (texts.text_number, [letters(), text_over()]),
    (texts.text_numbered, [letters(), whole("number", 9, 0, 10 ** 40)]),
    (texts.texts_of, [letters(), whole("size", 3, 0, 300)]),
    (readings.count, [word(), text()]),
    (readings.is_reading, [word(), text(), anything("value", (0, 1))]),
    (readings.reading, [word(), text(), whole("number", 2, 0, 2)]),
    (readings.reading_number, [word(), text(), listed("places", (0, 3), lambda value: value == (0, 1))]),
    (readings.used, [word(), text()]),
    (readings.counts, [letters(), whole("depth", 2, 0, 12), text("text", "abcab")]),
    (Sum, [listed("terms", [("a", 1), ("", -2)], are_terms)]),
    (ONE.terms, []),
    (ONE.degree, []),
    (ONE.worth, [text()]),
    (sums.plus, [total("one"), total("other", OTHER)]),
    (sums.times, [whole("number", -3), total()]),
    (sums.within, [total(), letters("a")]),
    (sums.parting, [total("one"), total("other", OTHER)]),
    (sums.parting_by, [total("one"), total("other", OTHER), whole("by", 2, 1)]),
    (sums.divisor, [total()]),
    (sums.worths, [letters(), whole("depth", 2, 0, 12), total()]),
    (sums.from_worths, [letters(), whole("depth", 1, 0, 12), listed("numbers", [1, 5, -2], are_wholes(3))]),
    (differences.front_part, [total(), word("word", "a")]),
    (differences.back_part, [total(), word("word", "b")]),
    (differences.summed, [whole("number", 3), listed("given", [("a", ONE), ("b", OTHER)], are_given)]),
    (differences.moved, [total(), text()]),
    (differences.unmoved, [total(), text()]),
    (exchanges.changes, [total(), text("one", "ab"), text("other", "ba")]),
    (exchanges.inner, [total()]),
    (exchanges.turn_parting, [total()]),
    (exchanges.kept_sums, [letters(), whole("depth", 2, 0, 39), listed("pairs", [("aab", "ba")], are_pairs)]),
]


def full_sum(name, value):
    return (name, value, errors.InvalidSum, lambda given: support.is_plain_sum(given) and given.terms() != [])


def table(name="table", value=TABLE):
    return (name, value, errors.InvalidTable, lambda given: type(given) is Table)


def signed(name, value):
    def fits(given):
        return type(given) is str and len(given) <= 300 and set(given) <= set("abAB")
    return (name, value, errors.InvalidText, fits)


def are_rules(value):
    if type(value) is not list or len(value) > 4:
        return False
    for item in value:
        if type(item) is not tuple or len(item) != 2 or not all(support.is_plain_text(each) for each in item):
            return False
        if len(item[0]) != 1 or len(item[1]) > 20:
            return False
    found = [letter for letter, _ in value]
    return found == sorted(set(found))


def ruled(name, value=GROWN):
    return (name, value, errors.InvalidRules, are_rules)


def are_texts(value):
    return type(value) is list and all(support.is_plain_text(item) for item in value)


def is_form(value):
    return value in ([], [("a", 1, 2)], [("a", 1, 1)])


def is_short_prime(value):
    return support.is_plain_text(value) and value in ("a", "b", "ab", "abc", "abcde")


STAGE_TWO = [
    (products.product, [total("one"), total("other", OTHER)]),
    (products.chosen, [total(), whole("many", 2, 0, 12)]),
    (products.quotient, [total("one", products.product(ONE, OTHER)), full_sum("other", OTHER)]),
    (primes.prime_parts, [text()]),
    (primes.prime_words, [letters(), whole("size", 4, 0, 12)]),
    (primes.prime_form, [total()]),
    (primes.from_prime_form, [listed("form", [("a", -1, 2), ("aa", 1, 2)], is_form)]),
    (primes.told_count, [letters(), listed("numbers", [3, 2, -4], lambda value: type(value) is list and all(
        support.is_plain_whole(item) for item in value)),
        ("word", "ba", errors.InvalidWord, support.is_plain_over("ab"))]),
    (Table, [letters(), whole("depth", 1, 0, 12), listed("numbers", [1, 5, -2], lambda value: are_wholes(3)(value)
                                                         and value[0] == 1)]),
    (TABLE.letters, []),
    (TABLE.depth, []),
    (TABLE.numbers, []),
    (TABLE.number, [("word", "ab", errors.InvalidWord, lambda value: support.is_plain_over("ab")(value)
                     and len(value) <= 2)]),
    (tables.table_of, [letters(), whole("depth", 2, 0, 12), signed("signed", "aBAb")]),
    (tables.joined, [table("one"), table("other", tables.table_of("ab", 2, "BA"))]),
    (tables.undone, [table()]),
    (tables.power, [table(), whole("many", -3)]),
    (tables.first_difference, [table("one"), table("other", tables.table_of("ab", 2, "baa"))]),
    (tables.root, [table("table", tables.power(TABLE, 6)), whole("many", 3, 1)]),
    (tables.greatest_root, [table("table", tables.power(TABLE, 6))]),
    (tables.table_round, [table(), whole("by", 6, 2, 1000)]),
    (legal.is_legal, [table()]),
    (legal.from_primes, [letters(), whole("depth", 2, 0, 12), listed("numbers", [1, 2, 3], are_wholes(3))]),
    (legal.at_primes, [table()]),
    (legal.commutator, [("word", "aab", errors.InvalidWord, is_short_prime)]),
    (legal.commutator_form, [table()]),
    (alike.depth_alike, [letters(), whole("most", 2, 0, 12), signed("one", "aabB"), signed("other", "Aaaa")]),
    (alike.twist, [text("x", "a"), text("y", "ba"), listed("parts", ["c", ""], are_texts)]),
    (alike.twist_gap, [text("x", "a"), text("y", "ba"), listed("parts", ["c", ""], are_texts)]),
    (alike.without_capitals, [letters(), whole("depth", 2, 0, 12), signed("signed", "abAB")]),
    (rules.done, [ruled("rules"), text()]),
    (rules.rules_after, [ruled("first"), ruled("second", SWAP)]),
    (rules.led, [total(), ruled("rules")]),
    (rules.rules_part, [ruled("one"), ruled("other", SWAP), whole("depth", 2, 0, 4)]),
]

CALLS = STAGE_ONE + STAGE_TWO
