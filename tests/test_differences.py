"""Points [13] to [15]: differences, sums told by them, and sums moved by a text."""

from skipcounts.differences import back_part, front_part, moved, summed, unmoved
from skipcounts.errors import InvalidList, InvalidNumber, InvalidText, InvalidWord, TooLong
from skipcounts.sums import Sum
from tests import support


class Examples(support.TestCase):
    def test_as_they_stand(self):
        one = Sum([("ab", 1), ("b", 3), ("ab", 1), ("a", 0)])
        self.assertEqual(
            [front_part(one, "a").terms(), back_part(one, "b").terms(),
             summed(5, [("a", Sum([("b", 2)])), ("b", Sum([("", 3)]))]).terms()],
            [[('b', 2)], [('', 3), ('a', 2)], [('', 5), ('b', 3), ('ab', 2)]])
        self.assertEqual([moved(one, "ab").terms(), unmoved(one, "a").terms()],
                         [[('', 5), ('b', 5), ('ab', 2)], [('b', 1), ('ab', 2)]])


class Parts(support.TestCase):
    def test_by_numbers(self):
        chance = support.chance(21)
        for _ in range(20):
            total = support.some_sum(chance, "abc", 12, 4)
            numbers = dict(total.terms())
            for word in ["", "a", "b", "ab", "ca", "abc", "x"]:
                rest = support.all_words("abc", 4)
                front = [(other, numbers[word + other]) for other in rest if word + other in numbers]
                back = [(other, numbers[other + word]) for other in rest if other + word in numbers]
                self.assertEqual(front_part(total, word), Sum(front))
                self.assertEqual(back_part(total, word), Sum(back))
        self.assertEqual(back_part(Sum([("aa", 5)]), "aaa"), Sum([]))

    def test_what_a_letter_brings(self):
        chance = support.chance(22)
        for _ in range(10):
            total = support.some_sum(chance, "ab", 8, 4)
            for letter in "abc":
                for text in support.all_words("abc", 3):
                    self.assertEqual(front_part(total, letter).worth(text),
                                     total.worth(letter + text) - total.worth(text))
                    self.assertEqual(back_part(total, letter).worth(text),
                                     total.worth(text + letter) - total.worth(text))

    def test_two_texts_one_behind_the_other(self):
        chance = support.chance(23)
        total = support.some_sum(chance, "ab", 10, 4)
        for one, other in [("ab", "ba"), ("aab", ""), ("", "abb"), ("abab", "aba")]:
            worth = sum(support.plain_count(word, one) * front_part(total, word).worth(other)
                        for word in support.all_words("ab", 4))
            self.assertEqual(total.worth(one + other), worth)

    def test_wrong_words(self):
        for wrong in [None, "A", 1, ["a"], ("a",), Sum([])]:
            self.refuses(InvalidWord, wrong, front_part, Sum([]), wrong)
            self.refuses(InvalidWord, wrong, back_part, Sum([]), wrong)


class Summed(support.TestCase):
    def test_has_the_front_parts_and_the_worth(self):
        chance = support.chance(24)
        for letters in ["", "a", "bd", "abz", "abcdefg"]:
            given = [(letter, support.some_sum(chance, "abz", 5, 3)) for letter in letters]
            number = chance.randint(-9, 9)
            total = summed(number, given)
            self.assertEqual(total.worth(""), number)
            for letter in support.ALL_LETTERS:
                self.assertEqual(front_part(total, letter), dict(given).get(letter, Sum([])))
            for text in ["", "a", "zab", "dbza", "abab"]:
                worth = number
                for at, letter in enumerate(text):
                    worth += dict(given).get(letter, Sum([])).worth(text[at + 1:])
                self.assertEqual(total.worth(text), worth)

    def test_without_anything_given(self):
        self.assertEqual(summed(0, []), Sum([]))
        self.assertEqual(summed(-7, []), Sum([("", -7)]))
        self.assertEqual(summed(0, [("a", Sum([]))]), Sum([]))

    def test_all_letters(self):
        given = [(letter, Sum([("", 1)])) for letter in support.ALL_LETTERS]
        self.assertEqual(summed(0, given).worth("zebra"), 5)

    def test_wrong_lists(self):
        one = Sum([("a", 1)])
        for given in [[("b", one), ("a", one)], [("a", one), ("a", one)], [("a", 1)], [("", one)], [("ab", one)],
                      [("A", one)], [["a", one]], [("a", one, one)], [("a",)], (("a", one),), {"a": one}, one, None,
                      [None], [(1, one)], [(None, one)], [(["a"], one)], [("a", one), ("b", None)]]:
            self.refuses(InvalidList, given, summed, 0, given)

    def test_at_most_12_letters(self):
        self.assertEqual(summed(0, [("a", Sum([("b" * 11, 1)]))]).degree(), 12)
        self.refuses_number(TooLong, 13, summed, 0, [("a", Sum([("b" * 12, 1)]))])
        self.refuses_number(TooLong, 14, summed, 0, [("a", Sum([("b" * 12, 1)])), ("b", Sum([("c" * 13, 1)]))])
        wrong = [("a", Sum([("b" * 12, 1)])), ("a", Sum([]))]
        self.refuses(InvalidList, wrong, summed, 0, wrong)
        self.refuses(InvalidNumber, None, summed, None, wrong)


class Moved(support.TestCase):
    def test_worths(self):
        chance = support.chance(25)
        for letters in ["a", "ab", "abc"]:
            for _ in range(8):
                total = support.some_sum(chance, letters, 8, 4)
                text = support.some_text(chance, letters + "x", chance.randint(0, 5))
                there = moved(total, text)
                for word in support.all_words(letters, 3):
                    self.assertEqual(there.worth(word), support.plain_worth(total, text + word))
                self.assertEqual(unmoved(there, text), total)
                self.assertEqual(moved(unmoved(total, text), text), total)
                for other in [there, unmoved(total, text)]:
                    self.assertEqual(other.degree(), total.degree())
                    longest = [term for term in total.terms() if len(term[0]) == total.degree()]
                    self.assertEqual([term for term in other.terms() if len(term[0]) == total.degree()], longest)

    def test_the_empty_text(self):
        total = Sum([("ab", 2), ("", 3)])
        self.assertEqual(moved(total, ""), total)
        self.assertEqual(unmoved(total, ""), total)
        self.assertEqual(moved(Sum([]), "ab"), Sum([]))
        self.assertEqual(unmoved(Sum([]), "ab"), Sum([]))

    def test_wrong_texts(self):
        for wrong in [None, "A", 1, ["a"], Sum([])]:
            self.refuses(InvalidText, wrong, moved, Sum([]), wrong)
            self.refuses(InvalidText, wrong, unmoved, Sum([]), wrong)

    def test_within_seconds(self):
        chance = support.chance(26)
        for letters in ["a", "ab", "abcd", support.ALL_LETTERS]:
            total = support.some_sum(chance, letters, 2000, 12, support.BIG)
            text = support.some_text(chance, letters, 300)
            there = self.in_seconds(moved, total, text)
            self.assertEqual(self.in_seconds(unmoved, there, text), total)
            self.in_seconds(front_part, total, "a")
            self.in_seconds(back_part, total, "a")
            self.in_seconds(summed, 1, [("a", Sum([("b" * 11, 1)]))])
