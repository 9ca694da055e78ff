"""All functions, classes and methods with their arguments: a right one each, and which others are refused with what.

An argument is (name, a right value, error, whether a value is right); the error is None where any value is let.
"""

from skipcounts import again, alike, arches, balances, binomials, book, chains, differences, errors, exchanges, finites
from skipcounts import kepttexts, leastforms, leastmachines, learners, legal, machinepowers, machinesums, means
from skipcounts import partings, powers, primes, printer, products, readatall, reader, readings, registers, rests
from skipcounts import restsets, rings, risings, rules, sayings, sums, tables, texts, toldback
from tests import support

Sum = sums.Sum
Table = tables.Table

ONE = Sum([("ab", 2), ("b", 3)])
OTHER = Sum([("a", 1), ("ba", -1), ("", 4)])
TABLE = tables.table_of("ab", 2, "abAab")
GROWN, SWAP = [("a", "ab"), ("b", "a")], [("a", "b"), ("b", "a")]


def letters(value="ab"):
    return ("letters", value, errors.InvalidLetters, support.is_plain_letters)


def total(name="total", value=ONE):
    return (name, value, errors.InvalidSum, support.is_plain_sum)


def text(name="text", value="abab"):
    return (name, value, errors.InvalidText, support.is_plain_text)


def text_over(name="text", value="abab", over="ab"):
    return (name, value, errors.InvalidText, support.is_plain_over(over))


def word(name="word", value="ab"):
    return (name, value, errors.InvalidWord, support.is_plain_text)


def whole(name, value, low=None, high=None):
    def fits(given):
        if not support.is_plain_whole(given):
            return False
        return (low is None or low <= given) and (high is None or given <= high)
    return (name, value, errors.InvalidNumber, fits)


def listed(name, value, fits):
    return (name, value, errors.InvalidList, fits)


def anything(name, value):
    return (name, value, None, None)


def are_terms(value):
    return type(value) is list and all(
        type(item) is tuple and len(item) == 2 and support.is_plain_text(item[0]) and support.is_plain_whole(item[1])
        for item in value)


def are_given(value):
    return type(value) is list and all(
        type(item) is tuple and len(item) == 2 and support.is_plain_text(item[0]) and len(item[0]) == 1
        and support.is_plain_sum(item[1]) for item in value)


def are_pairs(value):
    over = support.is_plain_over("ab")
    return type(value) is list and all(
        type(item) is tuple and len(item) == 2 and over(item[0]) and over(item[1]) for item in value)


def are_wholes(many):
    return lambda value: type(value) is list and len(value) == many and all(
        support.is_plain_whole(item) for item in value)


STAGE_ONE = [
    (texts.is_text, [anything("value", "ab")]),
    (texts.is_alphabet, [anything("value", "ab")]),
    (texts.is_over, [letters(), anything("value", "ab")]),
    (texts.is_ahead, [text("one", "ab"), text("other", "ba")]),
    (texts.text_number, [letters(), text_over()]),
    (texts.text_numbered, [letters(), whole("number", 9, 0, 10 ** 40)]),
    (texts.texts_of, [letters(), whole("size", 3, 0, 300)]),
    (readings.count, [word(), text()]),
    (readings.is_reading, [word(), text(), anything("value", (0, 1))]),
    (readings.reading, [word(), text(), whole("number", 2, 0, 2)]),
    (readings.reading_number, [word(), text(), listed("places", (0, 3), lambda value: value == (0, 1))]),
    (readings.used, [word(), text()]),
    (readings.counts, [letters(), whole("depth", 2, 0, 12), text("text", "abcab")]),
    (Sum, [listed("terms", [("a", 1), ("", -2)], are_terms)]),
    (ONE.terms, []),
    (ONE.degree, []),
    (ONE.worth, [text()]),
    (sums.plus, [total("one"), total("other", OTHER)]),
    (sums.times, [whole("number", -3), total()]),
    (sums.within, [total(), letters("a")]),
    (sums.parting, [total("one"), total("other", OTHER)]),
    (sums.parting_by, [total("one"), total("other", OTHER), whole("by", 2, 1)]),
    (sums.divisor, [total()]),
    (sums.worths, [letters(), whole("depth", 2, 0, 12), total()]),
    (sums.from_worths, [letters(), whole("depth", 1, 0, 12), listed("numbers", [1, 5, -2], are_wholes(3))]),
    (differences.front_part, [total(), word("word", "a")]),
    (differences.back_part, [total(), word("word", "b")]),
    (differences.summed, [whole("number", 3), listed("given", [("a", ONE), ("b", OTHER)], are_given)]),
    (differences.moved, [total(), text()]),
    (differences.unmoved, [total(), text()]),
    (exchanges.changes, [total(), text("one", "ab"), text("other", "ba")]),
    (exchanges.inner, [total()]),
    (exchanges.turn_parting, [total()]),
    (exchanges.kept_sums, [letters(), whole("depth", 2, 0, 39), listed("pairs", [("aab", "ba")], are_pairs)]),
]


def full_sum(name, value):
    return (name, value, errors.InvalidSum, lambda given: support.is_plain_sum(given) and given.terms() != [])


def table(name="table", value=TABLE):
    return (name, value, errors.InvalidTable, lambda given: type(given) is Table)


def signed(name, value):
    def fits(given):
        return type(given) is str and len(given) <= 300 and set(given) <= set("abAB")
    return (name, value, errors.InvalidText, fits)


def are_rules(value):
    if type(value) is not list or len(value) > 4:
        return False
    for item in value:
        if type(item) is not tuple or len(item) != 2 or not all(support.is_plain_text(each) for each in item):
            return False
        if len(item[0]) != 1 or len(item[1]) > 20:
            return False
    found = [letter for letter, _ in value]
    return found == sorted(set(found))


def ruled(name, value=GROWN):
    return (name, value, errors.InvalidRules, are_rules)


def are_texts(value):
    return type(value) is list and all(support.is_plain_text(item) for item in value)


def is_form(value):
    return value in ([], [("a", 1, 2)], [("a", 1, 1)])


def is_short_prime(value):
    return support.is_plain_text(value) and value in ("a", "b", "ab", "abc", "abcde")


STAGE_TWO = [
    (products.product, [total("one"), total("other", OTHER)]),
    (products.chosen, [total(), whole("many", 2, 0, 12)]),
    (products.quotient, [total("one", products.product(ONE, OTHER)), full_sum("other", OTHER)]),
    (primes.prime_parts, [text()]),
    (primes.prime_words, [letters(), whole("size", 4, 0, 12)]),
    (primes.prime_form, [total()]),
    (primes.from_prime_form, [listed("form", [("a", -1, 2), ("aa", 1, 2)], is_form)]),
    (primes.told_count, [letters(), listed("numbers", [3, 2, -4], lambda value: type(value) is list and all(
        support.is_plain_whole(item) for item in value)),
        ("word", "ba", errors.InvalidWord, support.is_plain_over("ab"))]),
    (Table, [letters(), whole("depth", 1, 0, 12), listed("numbers", [1, 5, -2], lambda value: are_wholes(3)(value)
                                                         and value[0] == 1)]),
    (TABLE.letters, []),
    (TABLE.depth, []),
    (TABLE.numbers, []),
    (TABLE.number, [("word", "ab", errors.InvalidWord, lambda value: support.is_plain_over("ab")(value)
                     and len(value) <= 2)]),
    (tables.table_of, [letters(), whole("depth", 2, 0, 12), signed("signed", "aBAb")]),
    (tables.joined, [table("one"), table("other", tables.table_of("ab", 2, "BA"))]),
    (tables.undone, [table()]),
    (tables.power, [table(), whole("many", -3)]),
    (tables.first_difference, [table("one"), table("other", tables.table_of("ab", 2, "baa"))]),
    (tables.root, [table("table", tables.power(TABLE, 6)), whole("many", 3, 1)]),
    (tables.greatest_root, [table("table", tables.power(TABLE, 6))]),
    (tables.table_round, [table(), whole("by", 6, 2, 1000)]),
    (legal.is_legal, [table()]),
    (legal.from_primes, [letters(), whole("depth", 2, 0, 12), listed("numbers", [1, 2, 3], are_wholes(3))]),
    (legal.at_primes, [table()]),
    (legal.commutator, [("word", "aab", errors.InvalidWord, is_short_prime)]),
    (legal.commutator_form, [table()]),
    (alike.depth_alike, [letters(), whole("most", 2, 0, 12), signed("one", "aabB"), signed("other", "Aaaa")]),
    (alike.twist, [text("x", "a"), text("y", "ba"), listed("parts", ["c", ""], are_texts)]),
    (alike.twist_gap, [text("x", "a"), text("y", "ba"), listed("parts", ["c", ""], are_texts)]),
    (alike.without_capitals, [letters(), whole("depth", 2, 0, 12), signed("signed", "abAB")]),
    (rules.done, [ruled("rules"), text()]),
    (rules.rules_after, [ruled("first"), ruled("second", SWAP)]),
    (rules.led, [total(), ruled("rules")]),
    (rules.rules_part, [ruled("one"), ruled("other", SWAP), whole("depth", 2, 0, 4)]),
]

Machine = registers.Machine
Finite = finites.Finite
HELD = Machine("ab", [1, 2], [[[1, 1], [0, 1]], [[2, 0], [-1, 1]]], [1, -3])
COUNTED = registers.counting_machine("ab", "ab")
RUN = Finite("ab", [[0, 1], [None, 1]], [0, 1])


def machine(name="machine", value=HELD):
    return (name, value, errors.InvalidMachine, lambda given: type(given) is Machine)


def finite_or_none(value=RUN):
    return ("finite", value, errors.InvalidFinite, lambda given: given is None or type(given) is Finite)


def finite(value=RUN):
    return ("finite", value, errors.InvalidFinite, lambda given: type(given) is Finite)


def is_list_of_size(low, high):
    """Such lists are refused by another error, with an item in its field, if at all."""
    return lambda value: type(value) is list and low <= len(value) <= high


def machines_listed():
    return listed("machines", [HELD, COUNTED, HELD], is_list_of_size(1, 8))


def choices(value):
    return listed("choices", value, is_list_of_size(1, 3))


def is_row(value):
    return type(value) is list and all(support.is_plain_whole(item) for item in value) and value[-1:] != [0]


def binomials_row(name="row", value=None):
    return listed(name, [2, -3, 2] if value is None else value, is_row)


def are_starts(value):
    return type(value) is list and all(support.is_plain_whole(item) for item in value)


def are_ends(value):
    return value in ([], [0], [1], [0, 1])


STAGE_THREE = [
    (binomials.row_value, [binomials_row(), whole("number", 10, 0)]),
    (binomials.binomial_row, [listed("values", [0, 1, 3, 6], are_starts)]),
    (binomials.row_product, [binomials_row("one"), binomials_row("other", [0, 1])]),
    (binomials.signs, [binomials_row()]),
    (again.worth_again, [total(), ruled("rules"), text(), whole("many", 20, 0),
                         ("by", 7, errors.InvalidNumber, lambda given: given is None or (
                             support.is_plain_whole(given) and given >= 1))]),
    (again.again_row, [total(), ruled("rules")]),
    (again.parting_again, [total("one"), total("other", OTHER), ruled("rules"), text()]),
    (again.parting_row, [total("one"), total("other", OTHER), choices([GROWN, SWAP]), text()]),
    (again.zero_paper, [total("total", Sum([("a", 1), ("b", -1)])), choices([SWAP]), text()]),
    (again.is_zero_paper, [total("total", Sum([("a", 1), ("b", -1)])), choices([SWAP]), text(),
                           anything("value", ([[]], [([0], [(1, 1)])]))]),
    (again.rules_growth, [ruled("rules")]),
    (again.again_since, [total(), ruled("rules", SWAP), text(), whole("rest", 1, 0, 1)]),
    (Machine, [letters(), listed("start", [1, 2], are_starts),
               listed("tables", [[[1, 1], [0, 1]], [[2, 0], [-1, 1]]], lambda value: False),
               listed("out", [1, -3], are_wholes(2))]),
    (HELD.letters, []),
    (HELD.start, []),
    (HELD.tables, []),
    (HELD.out, []),
    (registers.machine_worth, [machine(), text_over()]),
    (registers.counting_machine, [letters(), ("word", "ab", errors.InvalidWord, support.is_plain_over("ab"))]),
    (registers.machine_plus, [machine("one"), machine("other", COUNTED)]),
    (registers.machine_product, [machine("one"), machine("other", COUNTED)]),
    (registers.machine_led, [machine(), letters("ab"), ruled("rules")]),
    (Finite, [letters(), listed("moves", [[0, 1], [None, 1]], lambda value: value == [[0, 0]]),
              listed("ends", [0, 1], are_ends)]),
    (RUN.letters, []),
    (RUN.moves, []),
    (RUN.ends, []),
    (finites.lets, [finite(), text_over()]),
    (finites.machine_within, [machine(), finite()]),
    (partings.parting_text, [machine("one"), machine("other", COUNTED), finite_or_none()]),
    (partings.is_agreeing_paper, [machine("one"), machine("other"), finite_or_none(), anything("value", ["", "a"])]),
    (partings.agreeing_paper, [machine("one"), machine("other"), finite_or_none()]),
    (partings.parting_rest, [machine("one"), machine("other", COUNTED), whole("by", 3, 2), finite_or_none()]),
    (partings.common_divisor, [machine("one"), machine("other", COUNTED), finite_or_none()]),
    (balances.deciding_texts, [machines_listed(), finite_or_none()]),
    (balances.balances, [machines_listed(), finite_or_none()]),
    (balances.is_balance, [machines_listed(), anything("numbers", [1, 0, -1]), finite_or_none()]),
    (leastmachines.rank, [machine()]),
    (leastmachines.tests, [machine()]),
    (leastmachines.row_at, [machine(), text_over()]),
    (leastmachines.basis, [machine()]),
    (leastmachines.least_machine, [machine()]),
    (leastmachines.order_matters, [machine()]),
]

def are_sums(value):
    return type(value) is list and 1 <= len(value) <= 6 and all(support.is_plain_sum(item) for item in value)


def sums_listed():
    return listed("sums", [ONE, OTHER], are_sums)


def are_rests(value):
    return value in ([], [0], [1], [0, 1], [1, 2, 3])


def prime():
    return ("prime", 3, errors.InvalidNumber, lambda given: given in (2, 3, 5, 7, 13, 41))


EVEN = Finite("ab", [[1, 0], [0, 1]], [0])

STAGE_FOUR = [
    (machinesums.machine_number, [machine(), ("word", "ab", errors.InvalidWord, support.is_plain_over("ab"))]),
    (machinesums.sum_of, [machine("machine", COUNTED)]),
    (machinesums.no_sum_word, [machine()]),
    (machinesums.machine_of, [letters(), total()]),
    (machinepowers.parting_power, [machine("one"), machine("other", COUNTED), text_over("head", "a"),
                                   text_over("text", "ab"), text_over("behind", "b")]),
    (learners.machine_from, [letters("a"), whole("most", 1, 1, 6), listed("values", [1, 2], are_wholes(2))]),
    (risings.worths_on, [finite(), total("total", Sum([("ba", 1)]))]),
    (risings.rising, [finite(), total()]),
    (risings.is_rising, [finite(), total(), anything("value", ("", "a", "b"))]),
    (rests.by_rest, [total(), whole("number", 3, 2, 10000)]),
    (rests.rest_states, [letters(), sums_listed(), whole("number", 3, 2, 10000)]),
    (rests.rests_taken, [letters(), sums_listed(), whole("number", 3, 2, 10000)]),
    (rests.how_many_with, [letters(), sums_listed(), whole("number", 3, 2, 10000),
                           listed("rests", [1, 2], lambda value: value == [1, 0]), whole("many", 3, 0, 300)]),
    (rests.rest_set, [letters(), total(), whole("number", 3, 2, 10000), listed("rests", [1, 2], are_rests)]),
    (rests.first_with, [finite(), total(), whole("number", 3, 2, 10000), listed("rests", [1, 2], are_rests)]),
    (restsets.expansion, [finite(), whole("depth", 2, 0, 6)]),
    (restsets.told_by, [finite(EVEN), prime()]),
    (restsets.marks, [finite(), text_over("head", "a"), text_over("part", "ab"), text_over("end", "b")]),
    (restsets.bar, [finite(EVEN), prime()]),
    (restsets.is_bar, [finite(EVEN), prime(), anything("value", ("", "a", ""))]),
    (restsets.rest_parts, [finite(EVEN)]),
    (restsets.is_rest_parts, [finite(EVEN), anything("value", [(2, [[1, 0], [0, 1]], [0, 1])])]),
]

Kept = kepttexts.Kept
KEPT = Kept([("ab", 10 ** 29), (Kept([("ba", 2), ("", 3)]), 5)])
SHORT = Kept([("ab", 2), (Kept([("ba", 2), ("", 3)]), 1)])


def kept(name="kept", value=KEPT):
    return (name, value, errors.InvalidKept, lambda given: type(given) is Kept)


def are_pieces(value):
    return type(value) is list and all(
        type(item) is tuple and len(item) == 2 and (support.is_plain_text(item[0]) or type(item[0]) is Kept)
        and type(item[1]) is int and item[1] >= 0 for item in value)


def many_counts(value=1):
    return whole("many", value, 1, 3)


def family(name, value):
    return listed(name, value, lambda given: given in ([], [("a", (0, 1))]))


def grid(name, value):
    return listed(name, value, lambda given: given in ([], [((1,), 1)]))


def point(value):
    return listed("point", value, lambda given: given in ([0], [1]))


def depth(value=2, most=None):
    return whole("depth", value, 0, most)


PAIRED = [("a", (0, 1)), ("b", (2, 0)), ("a", (1, 1))]
SEEING = Finite("ab", [[1, None], [None, 1]], [1])


def seeing(value=SEEING):
    return ("machine", value, errors.InvalidFinite, lambda given: type(given) is Finite)


STAGE_FIVE = [
    (powers.power_row, [word(), text()]),
    (powers.member, [many_counts(), family("family", PAIRED), point([1])]),
    (powers.family_row, [total(), family("family", PAIRED)]),
    (powers.grid_value, [many_counts(), grid("grid", [((0,), 2), ((2,), -1)]), point([5])]),
    (powers.grids_part, [many_counts(), grid("one", [((0,), 2)]), grid("other", [((0,), 2), ((2,), -1)])]),
    (powers.family_grid, [many_counts(), total(), family("family", PAIRED)]),
    (powers.families_part, [many_counts(), family("one", PAIRED), family("other", PAIRED[::-1]), depth(2, 4)]),
    (Kept, [listed("pieces", [("ab", 3), (SHORT, 2)], are_pieces)]),
    (KEPT.pieces, []),
    (KEPT.length, []),
    (kepttexts.written, [kept("kept", SHORT)]),
    (kepttexts.kept_cut, [kept("kept", SHORT), whole("low", 2, 0, 8), whole("high", 5, 2, 8)]),
    (kepttexts.kept_count, [word(), kept()]),
    (kepttexts.kept_counts, [letters(), depth(2, 4), kept()]),
    (kepttexts.kept_part, [kept("one"), kept("other", SHORT), depth(2, 4)]),
    (kepttexts.reached, [word(), kept(), whole("number", 9, 0)]),
    (kepttexts.kept_reading, [word(), kept(), whole("number", 9, 0, 10 ** 29)]),
    (kepttexts.kept_reading_number, [word(), kept(), listed("places", (2, 5), lambda value: value in ((0, 1), (0, 9)))]),
    (readatall.reads, [depth(), text()]),
    (readatall.read_alike, [depth(), text("one", "abba"), text("other", "baab")]),
    (readatall.read_likeness, [text("one", "abba"), text("other", "baab")]),
    (readatall.parting_word, [text("one", "abba"), text("other", "baab")]),
    (readatall.steady_from, [depth(), text("head", "aa"), text("part", "ab"), text("tail", "bb")]),
    (leastforms.ranks, [text()]),
    (leastforms.can_go, [depth(), text()]),
    (leastforms.least_form, [depth(), text()]),
    (leastforms.steps, [depth(), text("one", "abab"), text("other", "babba")]),
    (leastforms.are_steps, [depth(), anything("value", ["abba", "abbab", "abab"])]),
    (arches.arches, [letters(), text_over("text", "abbabaa")]),
    (arches.missing, [letters(), text_over("text", "abbabaa")]),
    (arches.how_many_forms, [letters(), depth(2)]),
    (arches.form_numbered, [letters(), depth(2), whole("number", 8, 0, 15)]),
    (arches.form_number, [letters(), depth(2), text_over("text", "abba")]),
    (rings.sight, [seeing()]),
    (rings.seen_forms, [seeing()]),
    (rings.blind_spot, [seeing(EVEN)]),
    (rings.is_blind_spot, [seeing(EVEN), anything("value", ("ring", "", "a", "a", ""))]),
]

Book = book.Book


def changed_book():
    made = Book("abab", [ONE, OTHER])
    made.do(("put", 2, "ba"))
    made.do(("mirror",))
    made.undo()
    return made


BOOK = changed_book()


def condition(name="condition", value=("or", [("reads", "ab"), ("not", ("reads", "ba"))])):
    return (name, value, errors.InvalidSaying, chains.is_condition)


def deep_table(value=tables.table_of("ab", 2, "abba")):
    return ("table", value, errors.InvalidTable, lambda given: type(given) is Table and given.depth() > 0)


THREE = ("and", ("is", "ab", 3), ("not", ("rest", OTHER, 2, 0)))


def saying(name="saying", value=THREE):
    return (name, value, errors.InvalidSaying, lambda given: given == ("is", "a", 1))


def deed(fits):
    return ("deed", ("take", 1, 3), errors.InvalidDeed, fits)


def one_letter():
    return ("letter", "a", errors.InvalidLetters, lambda given: given in ("a", "b"))


STAGE_SIX = [
    (chains.is_condition, [anything("value", ("reads", "ab"))]),
    (chains.holds, [condition(), text()]),
    (chains.parting_case, [condition("one"), condition("other", ("reads", "a"))]),
    (chains.both_read, [listed("one", ["ab", "c"], are_texts), listed("other", ["ba"], are_texts)]),
    (chains.chain, [condition()]),
    (chains.is_chain, [anything("value", [["a"], ["aa", "ba"]])]),
    (chains.chain_lets, [listed("lists", [["a"], ["aa", "ba"]], chains.is_chain), text()]),
    (chains.levels, [condition()]),
    (chains.finite_of, [letters(), condition()]),
    (chains.chain_of_finite, [seeing()]),
    (toldback.peeled, [deep_table(), one_letter()]),
    (toldback.how_many_texts, [deep_table()]),
    (toldback.text_back, [deep_table(), whole("number", 1, 0, 1)]),
    (toldback.no_text_paper, [deep_table(Table("ab", 2, [1, 1, 1, 0, 2, -1, 0]))]),
    (toldback.is_no_text_paper, [deep_table(), anything("value", [TABLE])]),
    (toldback.telling_depth, [letters(), text_over()]),
    (sayings.is_saying, [letters(), anything("value", THREE)]),
    (sayings.keeps, [letters(), saying(), text_over()]),
    (sayings.capped_counts, [letters(), saying(), text_over()]),
    (sayings.saying_machine, [letters(), saying()]),
    (sayings.first_kept, [letters(), saying()]),
    (sayings.parting_saying, [letters(), saying("one"), saying("other", ("least", "ba", 1))]),
    (sayings.never_paper, [letters(), saying("saying", ("not", ("least", "a", 0)))]),
    (sayings.is_never_paper, [letters(), saying(), anything("value", ["", "a"])]),
    (means.mean, [letters(), total(), whole("size", 10 ** 20, 0)]),
    (means.means_part, [letters(), total("one"), total("other", OTHER)]),
    (means.arranged_mean, [total(), text()]),
    (means.unfair, [total()]),
    (means.below_zero, [("letters", "ab", errors.InvalidLetters, lambda value: value == "ab"), total()]),
    (printer.line_of, [total()]),
    (reader.sum_of_line, [("line", "+1[ab] -3[]", errors.InvalidLines, lambda given: given == "+1[a]")]),
    (reader.right_part, [("line", "+1[ab] -3[] ", errors.InvalidLines, lambda given: type(given) is str)]),
    (Book, [text(), listed("sums", [ONE, OTHER], is_list_of_size(0, 8))]),
    (BOOK.text, []),
    (BOOK.sums, []),
    (BOOK.worths, []),
    (BOOK.log, []),
    (BOOK.copy, []),
    (BOOK.growth, [deed(lambda given: given == ("mirror",))]),
    (BOOK.quiet, [whole("low", 1, 0, 6), whole("high", 3, 1, 6)]),
    (BOOK.shortest_put, [whole("place", 2, 0, 6), whole("size", 4, 1, 4)]),
    (book.is_deed, [("book", BOOK, errors.InvalidDeed, lambda given: type(given) is Book),
                    anything("value", ("take", 1, 3))]),
]

CALLS = STAGE_ONE + STAGE_TWO + STAGE_THREE + STAGE_FOUR + STAGE_FIVE + STAGE_SIX
