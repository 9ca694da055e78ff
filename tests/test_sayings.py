"""Points [84] to [86]: sayings by counts."""

from skipcounts.errors import InvalidLetters, InvalidSaying, InvalidText, TooMany
from skipcounts.finites import Finite
from skipcounts.readings import count
from skipcounts.sayings import capped_counts, first_kept, is_never_paper, is_saying, keeps, never_paper, parting_saying
from skipcounts.sayings import saying_machine
from skipcounts.sums import Sum
from tests import support
from tests.test_restsets import plain_least

A = Sum([("a", 1)])
GOOD = [("is", "a", 0), ("is", "abbaab", 20), ("least", "b", 20), ("rest", Sum([]), 2, 0), ("rest", A, 9, 8),
        ("rest", Sum([("abab", 10 ** 29), ("", -1)]), 2, 1), ("not", ("is", "a", 1)),
        ("and", ("is", "a", 1), ("least", "ab", 2)), ("or", ("not", ("rest", A, 3, 2)), ("is", "a", 1))]
BAD = [None, 1, "is", (), ("is",), ("is", "a"), ("is", "", 1), ("is", "a", -1), ("is", "a", 21), ("is", "a", True),
       ("is", "a", None), ("is", "c", 1), ("is", "A", 1), ("is", 1, 1), ("is", "aaaaaaa", 1), ("is", "a", 1, 1),
       ["is", "a", 1], ("least", "", 1), ("least", "a", 21), ("least", "abbaabb", 1), ("least", ["a"], 1),
       ("rest", A, 1, 0), ("rest", A, 10, 0), ("rest", A, 2, 2), ("rest", A, 2, -1), ("rest", A, True, 0),
       ("rest", A, 2, True), ("rest", A, 2, False), ("rest", A, None, 0), ("rest", A, 2), ("rest", A, 2, 0, 0),
       ("rest", [("a", 1)], 2, 0), ("rest", Sum([("c", 1)]), 2, 0), ("rest", Sum([("aabba", 1)]), 2, 0),
       ("rest", "a", 2, 0), ("not",), ("not", ("is", "a", 1), ("is", "a", 1)), ("not", [("is", "a", 1)]), ("not", None),
       ("and", ("is", "a", 1)), ("and", [("is", "a", 1), ("is", "a", 1)]), ("and", ("is", "a", 1), None),
       ("or", None, ("is", "a", 1)), ("or", ("is", "a", 1), ("is", "a", 1), ("is", "a", 1)), (None, "a", 1),
       ("Is", "a", 1), (("is",), "a", 1), ("xor", ("is", "a", 1), ("is", "a", 1)), {"is": 1}]


def plain_keeps(saying, text):
    kind = saying[0]
    if kind == "not":
        return not plain_keeps(saying[1], text)
    if kind in ("and", "or"):
        return (all if kind == "and" else any)(plain_keeps(own, text) for own in saying[1:])
    if kind == "rest":
        return support.plain_worth(saying[1], text) % saying[2] == saying[3]
    number = support.plain_count(saying[1], text)
    return number == saying[2] if kind == "is" else number >= saying[2]


def atoms(saying):
    if saying[0] in ("not", "and", "or"):
        return [atom for own in saying[1:] for atom in atoms(own)]
    return [saying]


def plain_capped(saying, text):
    found = []
    for atom in atoms(saying):
        if atom[0] == "rest":
            words = {word[:size] for word, _ in atom[1].terms() for size in range(1, len(word) + 1)}
            found += [count(word, text) % atom[2] for word in sorted(words, key=support.text_key)]
        else:
            found += [min(count(atom[1][:size], text), atom[2] + 1) for size in range(1, len(atom[1]) + 1)]
    return tuple(found)


def some_saying(chance, letters, deep=2):
    kind = chance.random()
    if deep and kind < 0.5:
        if kind < 0.12:
            return ("not", some_saying(chance, letters, deep - 1))
        return (chance.choice(["and", "or"]),) + tuple(some_saying(chance, letters, deep - 1) for _ in "ab")
    if kind < 0.7:
        by = chance.randint(2, 4)
        return ("rest", support.some_sum(chance, letters, 2, 2), by, chance.randrange(by))
    word = support.some_text(chance, letters, chance.randint(1, 3))
    return (chance.choice(["is", "least"]), word, chance.randint(0, 3))


class Examples(support.TestCase):
    def test_as_they_stand(self):
        three, square = ("is", "ab", 3), Sum([("aa", 2), ("a", 1)])
        self.assertEqual([keeps("ab", three, "abab"), capped_counts("ab", three, "abbbb"), first_kept("ab", three)],
                         [True, (1, 4), "aaab"])
        self.assertEqual([parting_saying("ab", ("least", "ab", 1), ("and", ("least", "a", 1), ("least", "b", 1))),
                          parting_saying("a", ("least", "aa", 1), ("least", "a", 2))], ["ba", None])
        self.assertEqual([first_kept("a", ("rest", square, 4, 2)), len(never_paper("a", ("rest", square, 4, 2))),
                          is_never_paper("a", ("rest", square, 4, 2), ["", "a"])], [None, 8, False])


class Kinds(support.TestCase):
    def test_what_is_a_saying(self):
        for value in GOOD:
            self.assertIs(is_saying("ab", value), True)
        deep = ("is", "a", 1)
        for _ in range(25):
            deep = ("not", deep)
        self.assertIs(is_saying("ab", deep), True)
        self.assertIs(keeps("ab", deep, "a"), False)

    def test_what_is_none(self):
        for value in BAD:
            self.assertIs(is_saying("ab", value), False)
            for call in [keeps, capped_counts, is_never_paper]:
                self.refuses(InvalidSaying, value, call, "ab", value, None)
            for call in [saying_machine, first_kept, never_paper]:
                self.refuses(InvalidSaying, value, call, "ab", value)
            self.refuses(InvalidSaying, value, parting_saying, "ab", value, None)
            self.refuses(InvalidSaying, value, parting_saying, "ab", GOOD[0], value)
            for outer in [("not", value), ("and", GOOD[0], value), ("or", value, GOOD[1])]:
                self.assertIs(is_saying("ab", outer), False)

    def test_bent_sayings(self):
        for saying in GOOD:
            for at in range(len(saying)):
                for wrong in [None, -1, True, "z", "A", [], (), {}, 10 ** 29]:
                    value = saying[:at] + (wrong,) + saying[at + 1:]
                    self.assertIs(is_saying("ab", value), False)
            self.assertIs(is_saying("ab", list(saying)), False)
            self.assertIs(is_saying("ab", saying + (0,)), False)

    def test_keeps(self):
        chance = support.chance(8401)
        for _ in range(150):
            letters = chance.choice(["a", "ab", "abc"])
            saying = some_saying(chance, letters)
            for _ in range(5):
                text = support.some_text(chance, letters, chance.randint(0, 7))
                self.assertIs(keeps(letters, saying, text), plain_keeps(saying, text))
        for number, text in [(0, ""), (20, "a" * 20)]:
            self.assertIs(keeps("a", ("is", "a", number), text), True)
            self.assertIs(keeps("a", ("least", "a", number), text + "a"), True)
            self.assertIs(keeps("a", ("is", "a", number), text + "a"), False)


class Capped(support.TestCase):
    def test_against_listing(self):
        chance = support.chance(8501)
        for _ in range(100):
            letters = chance.choice(["a", "ab", "abc"])
            saying = some_saying(chance, letters)
            for _ in range(5):
                text = support.some_text(chance, letters, chance.randint(0, 9))
                self.assertEqual(capped_counts(letters, saying, text), plain_capped(saying, text))
        self.assertEqual(capped_counts("ab", ("rest", Sum([("", 3)]), 2, 1), "abab"), ())
        self.assertEqual(capped_counts("ab", ("rest", Sum([("ba", 1), ("bb", 1)]), 9, 1), "bbab"), (3, 2, 3))
        self.assertEqual(capped_counts("ab", ("and", ("is", "aa", 0), ("is", "aa", 20)), "a" * 30), (1, 1, 21, 21))

    def test_machines(self):
        chance = support.chance(8502)
        for _ in range(120):
            letters = chance.choice(["a", "ab", "ab", "abc"])
            saying = some_saying(chance, letters)
            try:
                finite = saying_machine(letters, saying)
            except TooMany:
                continue
            for text in support.all_words(letters, {"a": 12, "ab": 7, "abc": 5}[letters]):
                self.assertEqual(support.plain_state(finite, text) in finite.ends(), plain_keeps(saying, text))
            moves, marks = plain_least(finite)
            self.assertEqual((finite.moves(), finite.ends()),
                             (moves, [state for state, mark in enumerate(marks) if mark]))
        self.assertEqual(saying_machine("ab", ("least", "a", 0)), Finite("ab", [[0, 0]], [0]))
        self.assertEqual(saying_machine("a", ("not", ("least", "a", 0))), Finite("a", [[0]], []))
        self.assertEqual(saying_machine("ab", ("is", "a", 1)), Finite("ab", [[1, 0], [2, 1], [2, 2]], [1]))

    def test_equal_machines_exactly_if_kept_by_the_same(self):
        chance = support.chance(8503)
        equal = 0
        for _ in range(150):
            one, other = [some_saying(chance, "ab", 1) for _ in "ab"]
            if chance.random() < 0.3:
                other = ("not", ("not", one))
            try:
                parts = parting_saying("ab", one, other)
            except TooMany:
                continue
            self.assertEqual(parts is None, saying_machine("ab", one) == saying_machine("ab", other))
            equal += parts is None
        self.assertGreater(equal, 20)


class Firsts(support.TestCase):
    def test_against_listing(self):
        chance = support.chance(8601)
        kinds = []
        for _ in range(200):
            letters, most = chance.choice([("a", 14), ("ab", 8), ("abc", 5)])
            one, other = some_saying(chance, letters), some_saying(chance, letters)
            texts = support.all_words(letters, most)
            try:
                kept, parts = first_kept(letters, one), parting_saying(letters, one, other)
            except TooMany:
                continue
            for found, right in [(kept, lambda text: plain_keeps(one, text)),
                                 (parts, lambda text: plain_keeps(one, text) != plain_keeps(other, text))]:
                listed = next((text for text in texts if right(text)), None)
                if found is None or len(found) <= most:
                    self.assertEqual(found, listed)
                else:
                    self.assertIsNone(listed)
                    self.assertTrue(right(found))
            kinds.append((kept is None, parts is None))
        self.assertEqual(len(set(kinds)), 4)

    def test_bound_for_sayings_without_rest(self):
        chance = support.chance(8602)
        for _ in range(60):
            saying = some_saying(chance, "ab")
            if any(atom[0] == "rest" for atom in atoms(saying)):
                continue
            kept = first_kept("ab", saying)
            if kept is not None:
                self.assertLessEqual(len(kept), sum(len(atom[1]) * (atom[2] + 1) for atom in atoms(saying)))

    def test_never_papers(self):
        chance = support.chance(8603)
        papers = 0
        for _ in range(300):
            letters = chance.choice(["a", "ab"])
            saying = some_saying(chance, letters)
            if chance.random() < 0.5:
                saying = ("and", saying, ("not", saying))
            try:
                paper = never_paper(letters, saying)
            except TooMany:
                continue
            self.assertEqual(paper is None, first_kept(letters, saying) is not None)
            if paper is None:
                continue
            papers += 1
            firsts = {}
            for text in support.all_words(letters, 6):
                firsts.setdefault(plain_capped(saying, text), text)
            self.assertEqual([text for text in paper if len(text) <= 6], list(firsts.values()))
            self.assertEqual(paper, sorted(paper, key=support.text_key))
            self.assertEqual(len({plain_capped(saying, text) for text in paper}), len(paper))
            self.check_bent(chance, letters, saying, paper)
        self.assertGreater(papers, 60)

    def plain_is_paper(self, letters, saying, value):
        over = support.is_plain_over(letters)
        if type(value) is not list or not all(over(text) for text in value) or "" not in value:
            return False
        if any(plain_keeps(saying, text) for text in value):
            return False
        known = {plain_capped(saying, text) for text in value}
        return all(plain_capped(saying, text + letter) in known for text in value for letter in letters)

    def check_bent(self, chance, letters, saying, paper):
        self.assertIs(is_never_paper(letters, saying, paper), True)
        values = [paper[::-1], paper * 2, paper + ["a"], paper + [""], tuple(paper), None, [], [""], paper + ["A"],
                  paper + [None], paper + [paper], "", paper[1:]]
        for _ in range(4):
            at = chance.randrange(len(paper))
            values += [paper[:at] + paper[at + 1:], paper[:at] + [paper[at][::-1]] + paper[at + 1:],
                       paper[:at] + [paper[at] + "a"] + paper[at + 1:]]
        for value in values:
            short = [text for text in value or [] if type(text) is str and len(text) < 12] if value else []
            if value and type(value) is list and len(short) < len(value) and len(paper) > 12:
                continue
            self.assertIs(is_never_paper(letters, saying, value), self.plain_is_paper(letters, saying, value))

    def test_600_capped_counts_and_601(self):
        # Counts of one letter capped at 20 or 21, and rests: their numbers multiply.
        def capped(number):
            return ("least", "a", number)

        def rest(letter, by):
            return ("rest", Sum([(letter, 1)]), by, 0)
        six_hundred = ("and", ("and", ("least", "a", 18), ("least", "b", 4)), ("rest", Sum([("c", 1)]), 5, 0))
        self.assertEqual(len(never_paper("abc", ("and", six_hundred, ("not", six_hundred)))), 20 * 6 * 5)
        for call in [saying_machine, first_kept, never_paper]:
            self.in_seconds(call, "abc", six_hundred)
        more = ("and", six_hundred, rest("a", 2))
        for saying in [more, ("and", ("and", capped(19), rest("b", 9)), rest("c", 9))]:
            for call in [saying_machine, first_kept, never_paper]:
                self.refuses_number(TooMany, 601, call, "abc", saying)
            self.refuses_number(TooMany, 601, parting_saying, "abc", saying, saying)
            self.assertIs(keeps("abc", saying, "abc"), plain_keeps(saying, "abc"))
            self.assertIs(is_never_paper("abc", saying, ["", "a"]), False)
        # Two sayings are judged together.
        one, other = ("and", capped(18), ("least", "b", 4)), ("rest", Sum([("c", 1)]), 5, 0)
        self.assertEqual(self.in_seconds(parting_saying, "abc", one, other), "")
        self.refuses_number(TooMany, 601, parting_saying, "abc", one, ("rest", Sum([("c", 1)]), 6, 0))
        # 601 is told also where fewer texts would tell the answer.
        self.refuses_number(TooMany, 601, first_kept, "abc", ("or", ("least", "a", 0), more))

    def test_at_the_limits(self):
        long = ("is", "abbaab", 20)
        self.in_seconds(self.refuses_number, TooMany, 601, first_kept, "abcd", long)
        self.assertEqual(len(self.in_seconds(first_kept, "abcd", ("is", "aaa", 20))), 6)
        eight = ("is", "a", 20)
        for _ in range(7):
            eight = ("or", eight, ("is", "aa", 20))
        self.in_seconds(saying_machine, "abcd", eight)
        self.assertEqual(self.in_seconds(first_kept, "abcd", eight), "a" * 20)
        self.assertIsNone(self.in_seconds(first_kept, "a", ("is", "aa", 20)))


class Wrong(support.TestCase):
    def test_order(self):
        for wrong in [None, 1, "ba", "", "abcde", ["a"]]:
            for call in [keeps, capped_counts, parting_saying, is_never_paper]:
                self.refuses(InvalidLetters, wrong, call, wrong, None, None)
            for call in [is_saying, saying_machine, first_kept, never_paper]:
                self.refuses(InvalidLetters, wrong, call, wrong, None)
        for wrong in [None, 1, "c", "A", ["a"]]:
            for call in [keeps, capped_counts]:
                self.refuses(InvalidText, wrong, call, "ab", GOOD[0], wrong)
