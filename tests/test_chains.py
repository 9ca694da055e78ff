"""Points [79] and [80]: conditions and chains."""

from skipcounts.chains import both_read, chain, chain_lets, chain_of_finite, finite_of, holds, is_chain, is_condition
from skipcounts.chains import levels, parting_case
from skipcounts.errors import InvalidFinite, InvalidLetters, InvalidList, InvalidSaying, InvalidText, TooMany
from skipcounts.finites import Finite
from skipcounts.rings import blind_spot
from tests import support
from tests.test_restsets import plain_least as plain_least_machine

ONCE = ("and", [("reads", "a"), ("not", ("reads", "aa"))])
ALL, NONE = ("and", []), ("or", [])
A_THEN_B = Finite("ab", [[1, None], [None, 1]], [1])


def is_in(word, text):
    rest = iter(text)
    return all(sign in rest for sign in word)


def plain_holds(condition, text):
    kind, given = condition
    if kind == "reads":
        return is_in(given, text)
    if kind == "not":
        return not plain_holds(given, text)
    return (all if kind == "and" else any)(plain_holds(own, text) for own in given)


def plain_least(texts):
    found = []
    for text in sorted(set(texts), key=support.text_key):
        if not any(is_in(own, text) for own in found):
            found.append(text)
    return found


def plain_chain(texts, lets):
    """The chain, told by texts up to some length, which have to be long enough."""
    lists, wanted = [], True
    least = plain_least([text for text in texts if lets(text)])
    while least:
        lists.append(least)
        wanted = not wanted
        least = plain_least([text for text in texts
                             if lets(text) == wanted and any(is_in(own, text) for own in lists[-1])])
    return lists


def some_condition(chance, words, deep=4):
    kind = chance.random()
    if deep == 0 or kind < 0.35:
        return ("reads", chance.choice(words))
    if kind < 0.5:
        return ("not", some_condition(chance, words, deep - 1))
    return (chance.choice(["and", "or"]), [some_condition(chance, words, deep - 1) for _ in range(chance.randint(0, 3))])


def some_words(chance, letters, many, size):
    return [support.some_text(chance, letters, chance.randint(0, size)) for _ in range(many)]


def odd_many(words):
    """Whether an odd number of the words is read."""
    made = NONE
    for word in words:
        made = ("or", [("and", [made, ("not", ("reads", word))]), ("and", [("not", made), ("reads", word)])])
    return made


def at_least_letters(many):
    return Finite("abc", [[min(state + 1, many)] * 3 for state in range(many + 1)], [many])


class Examples(support.TestCase):
    def test_as_they_stand(self):
        self.assertEqual([chain(ONCE), both_read(["ab"], ["ba"]), chain_of_finite(A_THEN_B)],
                         [[["a"], ["aa"]], ["aba", "bab"], [["a"], ["aa", "ba"]]])


class Conditions(support.TestCase):
    def test_what_is_one(self):
        deep = ("reads", "a")
        for _ in range(8):
            deep = ("not", deep)
        for value in [ALL, NONE, ONCE, deep, ("reads", ""), ("reads", "z" * 300), ("and", [ALL, NONE, ONCE])]:
            self.assertIs(is_condition(value), True)
        for value in [None, 1, "reads", (), ("reads",), ("reads", "A"), ("reads", 1), ("reads", ["a"]), ["reads", "a"],
                      ("reads", "a", "b"), ("not",), ("not", [ALL]), ("not", "a"), ("and", ALL), ("and", (ALL,)),
                      ("and", ["a"]), ("or", [("reads", "a"), None]), ("or", {}), ("xor", []), (None, []), (1, "a"),
                      ("and", [("not", ("reads", "A"))]), (("reads",), "a"), ("and",), ("or", [], [])]:
            self.assertIs(is_condition(value), False)
            self.refuses(InvalidSaying, value, holds, value, None)
            self.refuses(InvalidSaying, value, chain, value)
            self.refuses(InvalidSaying, value, levels, value)
            self.refuses(InvalidSaying, value, parting_case, value, None)
            self.refuses(InvalidSaying, value, parting_case, ALL, value)
            self.refuses(InvalidSaying, value, finite_of, "ab", value)

    def test_holds(self):
        chance = support.chance(7901)
        for _ in range(200):
            condition = some_condition(chance, some_words(chance, "abc", 4, 3))
            text = support.some_text(chance, "abcd", chance.randint(0, 7))
            self.assertIs(holds(condition, text), plain_holds(condition, text))
        self.assertIs(holds(ALL, ""), True)
        self.assertIs(holds(NONE, "abc"), False)

    def test_parting_case(self):
        chance = support.chance(7902)
        found = []
        texts = support.all_words("abc", 6)
        for _ in range(150):
            one, other = [some_condition(chance, some_words(chance, "abc", 3, 2)) for _ in "ab"]
            apart = [text for text in texts if plain_holds(one, text) != plain_holds(other, text)]
            text = parting_case(one, other)
            if text is None or len(text) <= 6:
                self.assertEqual(text, apart[0] if apart else None)
            else:
                self.assertEqual(apart, [])
            found.append(text)
        self.assertGreater(found.count(None), 10)
        self.assertGreater(len(set(found)), 10)
        self.assertIsNone(parting_case(ALL, ("not", NONE)))
        self.assertEqual(parting_case(ALL, NONE), "")
        self.assertEqual(parting_case(("reads", "zy"), NONE), "zy")
        self.assertEqual(parting_case(("reads", "ab"), ("and", [("reads", "a"), ("reads", "b")])), "ba")

    def test_two_conditions_at_the_limits(self):
        one = ("and", [("reads", word) for word in ["ab", "cd", "ef", "g", "h"]])
        other = ("and", [("reads", word) for word in ["ij", "kl", "mn", "o", "p"]])
        self.assertEqual(self.in_seconds(parting_case, one, other), "abcdefgh")
        self.assertEqual(len(self.in_seconds(parting_case, ("and", [one, other]), NONE)), 16)
        self.assertIsNone(self.in_seconds(parting_case, ("and", [one, other]), ("and", [other, one])))


class BothRead(support.TestCase):
    def test_against_listing(self):
        chance = support.chance(7903)
        texts = support.all_words("abc", 6)
        for _ in range(80):
            one, other = [some_words(chance, "abc", chance.randint(0, 3), 3) for _ in "ab"]
            expected = plain_least([text for text in texts if any(is_in(own, text) for own in one)
                                    and any(is_in(own, text) for own in other)])
            self.assertEqual(both_read(one, other), expected)

    def test_edges(self):
        self.assertEqual(both_read([], ["a"]), [])
        self.assertEqual(both_read(["a"], []), [])
        self.assertEqual(both_read([""], [""]), [""])
        self.assertEqual(both_read(["", "zz"], ["b", "a", "ab", "b"]), ["a", "b"])
        self.assertEqual(both_read(["aa"], ["aaa"]), ["aaa"])
        self.assertEqual(len(both_read(["abcd"], ["efgh"])), 70)

    def test_too_many(self):
        one, other = ["abcd", "ijkl", "mno", "pq", "r"], ["efgh"]
        self.assertEqual(len(both_read(["abcd", "ijkl"], other)), 140)
        self.assertEqual(len(both_read(one, other)), 70 + 70 + 35 + 15 + 5)
        self.assertEqual(both_read(one + ["e"], other), ["efgh"])
        self.assertEqual(len(both_read(one + ["s"], other)), 200)
        self.assertEqual(len(both_read(one + ["sefgh"], other)), 196)
        self.refuses_number(TooMany, 201, both_read, one + ["s", "tefgh"], other)
        self.refuses_number(TooMany, 201, both_read, ["abcd", "ijkl", "mnop"], ["efgh"])
        many = self.in_seconds(both_read, ["abcd", "bcda", "cdab", "dabc", "acbd", "bdac"],
                               ["dcba", "cbad", "badc", "adcb", "dbca", "cadb"])
        self.assertEqual(many, plain_least(many))

    def test_wrong(self):
        for wrong in [None, "a", 1, ("a",), ["A"], [1], [None], {}, ["a", ["b"]]]:
            self.refuses(InvalidList, wrong, both_read, wrong, None)
            self.refuses(InvalidList, wrong, both_read, ["a"], wrong)


class Chains(support.TestCase):
    def test_against_listing(self):
        chance = support.chance(8001)
        sizes = set()
        for _ in range(80):
            letters, most = chance.choice([("ab", 7), ("abc", 6)])
            texts = support.all_words(letters, most)
            words = some_words(chance, letters, 3, 2)
            condition = some_condition(chance, words)
            if chance.random() < 0.4:
                condition = odd_many(words[:chance.randint(1, 3)])
            found = chain(condition)
            self.assertEqual(found, plain_chain(texts, lambda text: plain_holds(condition, text)))
            self.assertIs(is_chain(found), True)
            self.assertLessEqual(len(found), len(set(words)) + 1)
            sizes.add(len(found))
            for text in texts[:200]:
                self.assertIs(chain_lets(found, text), plain_holds(condition, text))
            self.check_levels(condition, found)
        self.assertGreaterEqual(sizes, {0, 1, 2, 3}, sizes)

    def check_levels(self, condition, found):
        texts = levels(condition)
        self.assertEqual(len(texts), len(found))
        for at, text in enumerate(texts):
            self.assertIs(plain_holds(condition, text), at % 2 == 0)
            if at:
                self.assertTrue(is_in(texts[at - 1], text))

    def test_levels(self):
        chance = support.chance(8008)
        sizes = []
        for number in range(150):
            words = some_words(chance, "ab" if number % 3 else "abc", 5, 2)
            condition = odd_many(words) if chance.random() < 0.7 else some_condition(chance, words)
            try:
                found = chain(condition)
            except TooMany:
                continue
            self.check_levels(condition, found)
            sizes.append(len(found))
        self.assertGreater(sum(size > 3 for size in sizes), 10)

    def test_edges(self):
        self.assertEqual([chain(ALL), chain(NONE), levels(ALL), levels(NONE)], [[[""]], [], [""], []])
        self.assertEqual(chain(("reads", "")), [[""]])
        self.assertEqual(chain(("not", ("reads", "ab"))), [[""], ["ab"]])
        self.assertEqual(chain(("not", ("reads", "abcdefgh"))), [[""], ["abcdefgh"]])
        self.assertEqual(chain(odd_many(["a", "aa", "aaa"])), [["a"], ["aa"], ["aaa"]])
        self.assertEqual(levels(odd_many(["a", "aa", "aaa"])), ["a", "aa", "aaa"])
        self.assertEqual(chain(odd_many(["", "a", "aa", "aaa", "aaaa"])), [[""], ["a"], ["aa"], ["aaa"], ["aaaa"]])

    def test_equal_exactly_if_the_conditions_hold_for_the_same(self):
        chance = support.chance(8002)
        for _ in range(100):
            one, other = [some_condition(chance, ["a", "ab", "b"], 3) for _ in "ab"]
            self.assertEqual(chain(one) == chain(other), parting_case(one, other) is None)

    def test_too_many(self):
        self.assertEqual(len(chain(("and", [("reads", "abcd"), ("reads", "efgh")]))[0]), 70)
        big = ("and", [("reads", word) for word in ["ab", "cd", "ef", "g", "h"]])
        for condition in [big, ("not", big), odd_many(["ab", "cd", "ef", "g", "h"])]:
            for call in [chain, levels]:
                self.in_seconds(self.refuses_number, TooMany, 201, call, condition)
        # 8 letters in three words: 168 texts; in four of one letter and one of four: more than 200.
        self.assertEqual(len(chain(("and", [("reads", word) for word in ["abcde", "f", "g"]]))[0]), 42)
        self.assertEqual(len(chain(("and", [("reads", word) for word in ["abcdef", "g", "h"]]))[0]), 56)
        self.assertEqual(len(chain(("and", [("reads", word) for word in ["abc", "d", "e", "f"]]))[0]), 120)
        self.assertEqual(len(chain(("and", [("reads", word) for word in ["abcde", "fg", "h"]]))[0]), 168)
        self.assertEqual(len(chain(("or", [("and", [("reads", word) for word in ["abcde", "fg", "h"]]),
                                           ("reads", "z")]))[0]), 169)

    def test_200_texts_and_201(self):
        words = ["abc", "de", "f", "g", "h"]

        def all_of(rows):
            return ("or", [("and", [("reads", words[at]) for at in row]) for row in rows])
        let = all_of([[0, 1, 2], [0, 1, 3], [0, 2, 3], [0, 1, 4]])
        refused = all_of([[1, 2], [0, 1, 3], [0, 2, 3], [0, 1, 4], [0, 2, 4], [0, 3, 4], [1, 3, 4], [2, 3, 4]])
        self.assertEqual([len(texts) for texts in self.in_seconds(chain, let)], [200])
        self.assertEqual([len(texts) for texts in chain(("not", let))], [1, 200])
        self.assertEqual(len(levels(("not", let))), 2)
        for condition in [refused, ("not", refused)]:
            for call in [chain, levels]:
                self.in_seconds(self.refuses_number, TooMany, 201, call, condition)
        self.assertIsNone(parting_case(refused, ("not", ("not", refused))))

    def test_long_words(self):
        letters = support.ALL_LETTERS
        self.assertEqual(self.in_seconds(chain, ("not", ("reads", letters * 2))), [[""], [letters * 2]])
        self.assertIs(self.in_seconds(chain_lets, [[letters], [letters + "a"]], letters * 3), False)

    def test_too_many_of_machines(self):
        # There are 81 texts of four letters and 243 of five.
        self.assertEqual([len(texts) for texts in chain_of_finite(at_least_letters(4))], [81])
        self.refuses_number(TooMany, 201, chain_of_finite, at_least_letters(5))
    def test_what_is_a_chain(self):
        for value in [[], [[""]], [["a"]], [["a", "b"]], [["a"], ["aa"], ["aaa"]], [["a", "bb"], ["ab", "bbb"]],
                      [[""], ["ab"]], [["a"], ["aa", "ba"]], [["b" * 300], ["b" * 301]]]:
            self.assertIs(is_chain(value), True)
        for value in [None, (), "a", [[]], [["a"], []], [("a",)], (["a"],), ["a"], [["A"]], [[1]], [["b", "a"]],
                      [["a", "a"]], [["a", "ab"]], [["a"], ["b"]], [["a"], ["a"]], [["ab"], ["aba", "b"]],
                      [["a"], ["aa", "bb"]], [["a", "b"], ["a"]], [["aa"], ["a"]], [[["a"]]], [["a", None]],
                      [["a", "b"], ["aab", "ab"]], [{"a": 1}], [["", "a"]], [["a"], ["aa"], ["ab"]]]:
            self.assertIs(is_chain(value), False)
            self.refuses(InvalidList, value, chain_lets, value, None)

    def test_bent_chains(self):
        chance = support.chance(8003)
        words = support.all_words("ab", 3)
        told = []
        for _ in range(400):
            value = [sorted(chance.sample(words, chance.randint(1, 2)), key=support.text_key)
                     for _ in range(chance.randint(1, 3))]
            least = all(not is_in(own, text) for texts in value for own in texts for text in texts if own != text)
            steps = all(any(is_in(own, text) for own in ahead) for ahead, behind in zip(value, value[1:]) for text in behind)
            apart = all(not is_in(own, text) for ahead, behind in zip(value, value[1:]) for own in behind for text in ahead)
            told.append(is_chain(value))
            self.assertEqual(told[-1], least and steps and apart)
            if told[-1]:
                for text in words:
                    many = sum(any(is_in(own, text) for own in texts) for texts in value)
                    self.assertIs(chain_lets(value, text), many % 2 == 1)
        self.assertGreater(sum(told), 40)

    def test_at_the_limits(self):
        chance = support.chance(8004)
        for _ in range(60):
            letters, left, words = chance.choice(["ab", "abc", "abcd", support.ALL_LETTERS]), 8, []
            for _ in range(5):
                words.append(support.some_text(chance, letters, chance.randint(0, min(left, 3))))
                left -= len(words[-1])
            condition = odd_many(words) if chance.random() < 0.3 else some_condition(chance, words, 4)
            try:
                found = self.in_seconds(chain, condition)
            except TooMany:
                continue
            for _ in range(30):
                text = support.some_text(chance, letters, chance.randint(0, 12))
                self.assertEqual(chain_lets(found, text), plain_holds(condition, text))


class Machines(support.TestCase):
    def test_machines_of_conditions(self):
        chance = support.chance(8005)
        texts = support.all_words("ab", 6)
        for _ in range(80):
            condition = some_condition(chance, some_words(chance, "abc", 3, 3))
            finite = finite_of("ab", condition)
            for text in texts:
                self.assertEqual(support.plain_lets(finite, text), plain_holds(condition, text))
            self.check_least(finite)
            try:
                lists = chain_of_finite(finite)
            except TooMany:
                continue
            self.assertEqual(lists, plain_chain(texts, lambda text: plain_holds(condition, text)))

    def check_least(self, finite):
        """It is what becomes of it if it is made least, with states numbered by their first texts."""
        moves, marks = plain_least_machine(finite)
        self.assertEqual(finite.moves(), moves)
        self.assertEqual(finite.ends(), [state for state, mark in enumerate(marks) if mark])

    def test_edges(self):
        self.assertEqual(finite_of("ab", ALL), Finite("ab", [[0, 0]], [0]))
        self.assertEqual(finite_of("a", NONE), Finite("a", [[0]], []))
        self.assertEqual(finite_of("a", ("reads", "b")), Finite("a", [[0]], []))
        self.assertEqual(finite_of("bc", ("reads", "cb")), Finite("bc", [[0, 1], [2, 1], [2, 2]], [2]))
        self.assertEqual(chain_of_finite(Finite("ab", [[None, None]], [0])), [[""], ["a", "b"]])
        self.assertEqual(chain_of_finite(Finite("ab", [[None, None]], [])), [])
        self.assertEqual(chain_of_finite(Finite("ab", [[0, 0]], [0])), [[""]])
        self.assertIsNone(chain_of_finite(Finite("a", [[1], [0]], [0])))
        self.assertIsNone(chain_of_finite(Finite("ab", [[1, 2], [1, 1], [2, 2]], [1])))

    def test_chains_of_machines(self):
        chance = support.chance(8006)
        found = []
        for _ in range(250):
            letters, states = chance.choice(["a", "ab", "abc"]), chance.randint(1, 4)
            moves = [[chance.choice([None, state, chance.randrange(state, states)]) for _ in letters]
                     for state in range(states)]
            finite = Finite(letters, moves, [state for state in range(states) if chance.random() < 0.5])
            lists = chain_of_finite(finite)
            self.assertEqual(lists is None, blind_spot(finite) is not None)
            if lists is not None:
                self.assertTrue(is_chain(lists))
                for text in support.all_words(letters, {"a": 9, "ab": 7, "abc": 5}[letters]):
                    self.assertEqual(chain_lets(lists, text), support.plain_lets(finite, text))
                if letters == "ab" and all(len(text) < 7 for texts in lists for text in texts):
                    texts = support.all_words("ab", 7)
                    self.assertEqual(lists, plain_chain(texts, lambda text: support.plain_lets(finite, text)))
            found.append(0 if lists is None else len(lists))
        self.assertGreater(len(set(found)), 3)

    def test_texts_read_in_longer_ones(self):
        """Machines of a few texts, of which some are read in others and still go on in another way."""
        chance = support.chance(8007)
        words = support.all_words("abc", 4)
        for texts in [["a", "ba", "bac"], ["ab", "aab", "aabc"], ["b", "ab", "abb", "acbc"]] + [
                chance.sample(words, chance.randint(1, 4)) for _ in range(40)]:
            beginnings = sorted({text[:size] for text in texts for size in range(len(text) + 1)}, key=support.text_key)
            moves = [[beginnings.index(own + letter) if own + letter in beginnings else None for letter in "abc"]
                     for own in beginnings]
            finite = Finite("abc", moves, sorted(beginnings.index(text) for text in set(texts)))
            found = self.in_seconds(chain_of_finite, finite)
            self.assertEqual(found, plain_chain(support.all_words("abc", 5), lambda text: text in texts))

    def test_more_forms_than_are_let_are_no_bar(self):
        self.assertEqual(chain_of_finite(at_least_letters(3)), [support.all_words("abc", 3)[13:]])
        third = Finite("abc", [[min(state + 1, 3)] * 3 for state in range(4)], [1, 3])
        self.assertEqual([len(texts) for texts in chain_of_finite(third)], [3, 9, 27])

    def test_at_the_limits(self):
        for moves, ends in [([[1, 0, 5], [1, 2, 2], [3, 3, 2], [4, 4, 3], [5, 4, 5], [5, 5, None]], [0, 1, 2, 3, 5]),
                            ([[0, 5, 1], [2, 1, 5], [3, 3, 2], [3, 4, 5], [None, None, 4], [5, 5, None]], [1, 3, 5]),
                            ([[0, 1, 1], [2, 5, 1], [3, 2, 2], [4, 4, 3], [4, 5, 5], [5, None, 5]], [0, 1, 3, 5])]:
            finite = Finite("abc", moves, ends)
            self.assertIsNone(blind_spot(finite))
            try:
                lists = self.in_seconds(chain_of_finite, finite)
            except TooMany:
                continue
            self.in_seconds(is_chain, lists)
            for text in support.all_words("abc", 6)[::9]:
                many = sum(any(is_in(own, text) for own in texts) for texts in lists)
                self.assertEqual(many % 2 == 1, support.plain_lets(finite, text))

    def test_wrong(self):
        for wrong in [None, 1, "ba", "", "abcde"]:
            self.refuses(InvalidLetters, wrong, finite_of, wrong, None)
        for wrong in [None, 1, "ab", [[0]], ALL]:
            self.refuses(InvalidFinite, wrong, chain_of_finite, wrong)
        for wrong in [None, 1, "A", ["a"]]:
            self.refuses(InvalidText, wrong, holds, ALL, wrong)
            self.refuses(InvalidText, wrong, chain_lets, [], wrong)
