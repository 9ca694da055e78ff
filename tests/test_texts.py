"""Point [6]: texts, alphabets and their order, and what point [4] says of them."""

from skipcounts.errors import InvalidLetters, InvalidNumber, InvalidText, TooLong, TooMany
from skipcounts.texts import is_ahead, is_alphabet, is_over, is_text, text_number, text_numbered, texts_of
from tests import support


class Examples(support.TestCase):
    def test_as_they_stand(self):
        self.assertEqual(
            [is_text("abba"), is_text("aB"), is_alphabet("ba"), is_over("ab", "abc"), is_ahead("zz", "aaa"),
             is_ahead("ab", "aa")],
            [True, False, False, False, True, False])
        self.assertEqual(
            [text_number("ab", ""), text_number("ab", "ba"), text_numbered("ab", 6), text_numbered("x", 3),
             texts_of("ab", 2)],
            [0, 5, "bb", "xxx", ["aa", "ab", "ba", "bb"]])


class Texts(support.TestCase):
    def test_is_text(self):
        for value in ["", "a", "z", support.ALL_LETTERS, "a" * 301]:
            self.assertIs(is_text(value), True, value)
        for value in ["A", "a ", " ", "a\n", "ab1", "1", "-", "a_b", "`", "{", "a{"]:
            self.assertIs(is_text(value), False, value)
        for value in support.any_values():
            self.assertIs(is_text(value), support.is_plain_text(value), value)

    def test_is_alphabet(self):
        for value in ["a", "z", "ab", "az", "abcd", "wxyz", "acez"]:
            self.assertIs(is_alphabet(value), True, value)
        for value in ["", "aa", "ba", "abb", "abcde", "abdc", "A", "aB", "a b", ["a"], ("a",), ["a", "b"]]:
            self.assertIs(is_alphabet(value), False, value)
        for value in support.any_values():
            self.assertIs(is_alphabet(value), support.is_plain_letters(value), value)

    def test_is_over(self):
        self.assertIs(is_over("ab", ""), True)
        self.assertIs(is_over("ac", "aca"), True)
        self.assertIs(is_over("ac", "abca"), False)
        self.assertIs(is_over("abcd", "abcd" * 80), True)
        for value in support.any_values():
            self.assertIs(is_over("a", value), support.is_plain_over("a")(value), value)
        self.refuses(InvalidLetters, "", is_over, "", "")

    def test_is_ahead_is_the_order_of_texts(self):
        words = support.all_words("abz", 3)
        for at, one in enumerate(words):
            for other_at, other in enumerate(words):
                self.assertIs(is_ahead(one, other), at < other_at)

    def test_numbers_against_listing(self):
        for letters, depth in [("a", 9), ("ab", 5), ("acz", 4), ("bxyz", 3)]:
            words = support.all_words(letters, depth)
            for at, word in enumerate(words):
                self.assertEqual(text_number(letters, word), at)
                self.assertEqual(text_numbered(letters, at), word)

    def test_texts_of_against_listing(self):
        for letters in ["a", "ab", "acz", "bxyz"]:
            for size in range(5):
                expected = [word for word in support.all_words(letters, size) if len(word) == size]
                self.assertEqual(texts_of(letters, size), expected)
        self.assertEqual(texts_of("q", 300), ["q" * 300])

    def test_text_over_is_needed(self):
        self.refuses(InvalidText, "abc", text_number, "ab", "abc")
        self.refuses(InvalidText, "c", text_number, "ab", "c")


class Bounds(support.TestCase):
    def test_text_numbered_lets_300_letters(self):
        for letters in ["a", "ab", "abc", "abcd"]:
            last = letters[-1] * 300
            number = sum(len(letters) ** size for size in range(1, 301))
            self.assertEqual(text_numbered(letters, number), last)
            self.assertEqual(text_number(letters, last), number)
            self.refuses_number(TooLong, 301, text_numbered, letters, number + 1)

    def test_text_numbered_with_very_many_figures(self):
        for many, letters in enumerate(["a", "ab", "abc", "abcd"], 1):
            for size in [302, 500, 511, 512, 513, 1024, 3001, 20000]:
                # The number of the first text with so many letters.
                first = size if many == 1 else (many ** size - 1) // (many - 1)
                self.refuses_number(TooLong, size, text_numbered, letters, first)
                self.refuses_number(TooLong, size - 1, text_numbered, letters, first - 1)
        self.refuses_number(TooLong, 10 ** 5000, text_numbered, "a", 10 ** 5000)

    def test_texts_of(self):
        self.assertEqual(len(texts_of("ab", 10)), 1024)
        self.refuses_number(TooMany, 2048, texts_of, "ab", 11)
        self.assertEqual(len(texts_of("abc", 6)), 729)
        self.refuses_number(TooMany, 2187, texts_of, "abc", 7)
        self.assertEqual(len(texts_of("abcd", 5)), 1024)
        self.refuses_number(TooMany, 4096, texts_of, "abcd", 6)
        self.refuses_number(TooMany, 4 ** 300, texts_of, "abcd", 300)
        self.refuses(InvalidNumber, 301, texts_of, "a", 301)
        self.refuses(InvalidNumber, -1, texts_of, "a", -1)

    def test_within_seconds(self):
        self.in_seconds(text_number, "abcd", "d" * 300)
        for letters in ["ab", "abc", "abcd"]:
            with self.assertRaises(TooLong):
                self.in_seconds(text_numbered, letters, 10 ** 50000)
