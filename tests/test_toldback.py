"""Points [81] to [83]: texts told back from their tables."""

import itertools

from skipcounts.errors import InvalidLetters, InvalidNumber, InvalidTable, InvalidText, TooLong
from skipcounts.readings import counts
from skipcounts.tables import Table, joined, table_of
from skipcounts.toldback import how_many_texts, is_no_text_paper, no_text_paper, peeled, telling_depth, text_back
from tests import support

ODD = Table("ab", 2, [1, 1, 1, 0, 2, -1, 0])


def arrangements(text):
    return sorted({"".join(signs) for signs in itertools.permutations(text)})


def plain_texts(table):
    """The texts with a table, by listing all arrangements of as many letters as it says."""
    letters, depth, numbers = table.letters(), table.depth(), table.numbers()
    firsts = numbers[1:len(letters) + 1]
    if min(firsts) < 0:
        return []
    text = "".join(letter * many for letter, many in zip(letters, firsts))
    return [own for own in arrangements(text) if counts(letters, depth, own) == numbers]


def some_table(chance, most=6):
    """The table of a text, of a signed text, or one that is bent."""
    letters = chance.choice(["a", "ab", "ab", "abc"])
    depth = chance.randint(1, 3)
    signs = letters if chance.random() < 0.6 else letters + letters.upper()
    table = table_of(letters, depth, support.some_text(chance, signs, chance.randint(0, most)))
    if chance.random() < 0.4:
        numbers = table.numbers()
        numbers[chance.randrange(1, len(numbers))] += chance.choice([-1, 1, 2])
        table = Table(letters, depth, numbers)
    return table


class Examples(support.TestCase):
    def test_as_they_stand(self):
        table, odd = table_of("ab", 2, "abba"), Table("ab", 2, [1, 1, 1, 0, 2, -1, 0])
        self.assertEqual([how_many_texts(table), text_back(table, 1), peeled(table, "a").numbers(),
                          no_text_paper(table)], [2, "baab", [1, 1, 2, 0, 0, 2, 1], None])
        self.assertEqual([how_many_texts(odd), peeled(odd, "a"), no_text_paper(odd) == [odd]], [0, None, True])
        self.assertEqual([telling_depth("ab", "abab"), telling_depth("ab", "abba")], [2, 3])


class Peeled(support.TestCase):
    def test_is_joined_with_the_capital(self):
        chance = support.chance(8101)
        kinds = set()
        for _ in range(200):
            table = some_table(chance)
            for letter in table.letters():
                expected = joined(table_of(table.letters(), table.depth(), letter.upper()), table)
                found = peeled(table, letter)
                kinds.add(found is None)
                if min(expected.numbers()) < 0:
                    self.assertIsNone(found)
                else:
                    self.assertEqual(found, expected)
        self.assertEqual(kinds, {True, False})

    def test_takes_the_first_letter(self):
        for text in support.all_words("abc", 4):
            for letter in "abc":
                found = peeled(table_of("abc", 3, letter + text), letter)
                self.assertEqual(found, table_of("abc", 3, text))

    def test_many_letters_are_let(self):
        self.assertEqual(peeled(table_of("ab", 3, "ab" * 100), "a"), table_of("ab", 3, "b" + "ab" * 99))
        self.assertIsNone(peeled(table_of("ab", 3, "a" * 100), "b"))
        self.assertIsNone(peeled(table_of("ab", 1, ""), "b"))
        self.assertEqual(peeled(table_of("a", 1, "a"), "a"), table_of("a", 1, ""))


class TextsBack(support.TestCase):
    def test_against_listing(self):
        chance = support.chance(8102)
        many = []
        for _ in range(300):
            table = some_table(chance)
            size = sum(table.numbers()[1:len(table.letters()) + 1])
            texts = plain_texts(table)
            self.assertEqual(how_many_texts(table), len(texts))
            self.assertEqual([text_back(table, number) for number in range(len(texts))], texts)
            self.refuses(InvalidNumber, len(texts), text_back, table, len(texts))
            paper = no_text_paper(table)
            self.assertEqual(paper is None, texts != [])
            if paper is not None:
                self.check_paper(table, paper)
            many.append(len(texts))
            self.assertLessEqual(size, 9)
        self.assertGreater(many.count(0), 50)
        self.assertGreater(len(set(many)), 5)

    def check_paper(self, table, paper):
        rows = [own.numbers() for own in paper]
        self.assertEqual(rows, sorted(rows))
        self.assertEqual(len({tuple(row) for row in rows}), len(rows))
        self.assertIs(is_no_text_paper(table, paper), True)
        self.assertIs(is_no_text_paper(table, paper[::-1] + paper[:1]), True)
        # No table can be left out, as letters lead to each of them.
        for at in range(len(paper)):
            self.assertIs(is_no_text_paper(table, paper[:at] + paper[at + 1:]), False)

    def test_edges(self):
        for letters in ["a", "ab", "abcd"]:
            empty = table_of(letters, 1, "")
            self.assertEqual([how_many_texts(empty), text_back(empty, 0), no_text_paper(empty)], [1, "", None])
        one = table_of("a", 12, "a" * 9)
        self.assertEqual([how_many_texts(one), text_back(one, 0), no_text_paper(one)], [1, "a" * 9, None])
        below = Table("ab", 1, [1, 5, -1])
        self.assertEqual([how_many_texts(below), no_text_paper(below) == [below]], [0, True])
        self.refuses(InvalidNumber, 0, text_back, below, 0)
        # The sum of the numbers at single letters, of which one may be below 0, counts.
        far = Table("ab", 1, [1, 10 ** 29, -10 ** 29])
        self.assertEqual([how_many_texts(far), no_text_paper(far) == [far]], [0, True])
        lonely = Table("ab", 2, [1, 0, 0, 0, 1, 0, 0])
        self.assertEqual([how_many_texts(lonely), no_text_paper(lonely) == [lonely]], [0, True])

    def test_nine_letters_and_ten(self):
        for text in ["a" * 9, "abababbab", "abcdabcda"]:
            letters = "".join(sorted(set(text)))
            self.assertGreater(how_many_texts(table_of(letters, 2, text)), 0)
            ten = table_of(letters, 2, text + "a")
            for call in [how_many_texts, no_text_paper]:
                self.refuses_number(TooLong, 10, call, ten)
            self.refuses_number(TooLong, 10, text_back, ten, None)
            self.assertFalse(is_no_text_paper(ten, [ten]))
        self.refuses_number(TooLong, 10 ** 29, how_many_texts, Table("a", 1, [1, 10 ** 29]))
        self.assertIs(is_no_text_paper(Table("ab", 1, [1, 10 ** 29, -1]), [Table("ab", 1, [1, 10 ** 29, -1])]), True)

    def test_at_the_limits(self):
        self.assertEqual(self.in_seconds(how_many_texts, table_of("abcd", 1, "aaabbccdd")), 7560)
        self.assertEqual(self.in_seconds(text_back, table_of("abcd", 1, "aaabbccdd"), 7559), "ddccbbaaa")
        for text in ["aaabbccdd", "dacbdacba", "abcdabcda", "abababbab"]:
            for depth in [1, 2, 3, 4]:
                table = table_of("abcd", depth, text)
                many = self.in_seconds(how_many_texts, table)
                texts = [text_back(table, number) for number in range(0, many, max(1, many // 4))]
                self.assertTrue(all(table_of("abcd", depth, own) == table for own in texts))
                self.assertIsNone(self.in_seconds(no_text_paper, table))
                numbers = table.numbers()
                numbers[-1] += 1
                bent = Table("abcd", depth, numbers)
                if depth > 1:
                    paper = self.in_seconds(no_text_paper, bent)
                    self.assertEqual(how_many_texts(bent), 0)
                    self.assertTrue(self.in_seconds(is_no_text_paper, bent, paper))


class Papers(support.TestCase):
    def plain_is_paper(self, table, value):
        if type(value) is not list or not all(type(own) is Table for own in value):
            return False
        if any(own.letters() != table.letters() or own.depth() != table.depth() for own in value):
            return False
        if table not in value or table_of(table.letters(), table.depth(), "") in value:
            return False
        after = [peeled(own, letter) for own in value for letter in table.letters()]
        return all(own is None or own in value for own in after)

    def test_bent_papers(self):
        chance = support.chance(8201)
        told = []
        for _ in range(120):
            table = some_table(chance, 5)
            paper = no_text_paper(table) or [table]
            others = [table_of("ab", 1, ""), table_of(table.letters(), table.depth(), ""), ODD, table_of("ab", 2, "ab"),
                      some_table(chance), None, 1, "a", [], table.numbers()]
            values = [paper + [other] for other in others] + [paper * 2, tuple(paper), None, [], [table]]
            for at in range(len(paper)):
                values += [paper[:at] + paper[at + 1:], paper[:at] + [chance.choice(others)] + paper[at + 1:]]
            for value in values:
                found = is_no_text_paper(table, value)
                self.assertIs(type(found), bool)
                self.assertEqual(found, self.plain_is_paper(table, value))
                told.append(found)
        self.assertGreater(sum(told), 100)


class TellingDepth(support.TestCase):
    def test_against_listing(self):
        for letters, most in [("a", 5), ("ab", 6), ("abc", 4), ("abcd", 3)]:
            for text in support.all_words(letters, most):
                depth, others = 1, [own for own in support.all_words(letters, len(text)) if own != text]
                while any(counts(letters, depth, own) == counts(letters, depth, text) for own in others):
                    depth += 1
                self.assertEqual(telling_depth(letters, text), depth)

    def test_edges(self):
        self.assertEqual(telling_depth("abcd", ""), 1)
        self.assertEqual(telling_depth("abcd", "d"), 1)
        self.assertEqual(telling_depth("a", "a" * 8), 1)
        self.refuses_number(TooLong, 9, telling_depth, "a", "a" * 9)
        self.refuses_number(TooLong, 300, telling_depth, "ab", "ab" * 150)
        self.refuses(InvalidText, "abc" * 5, telling_depth, "ab", "abc" * 5)

    def test_eight_letters(self):
        chance = support.chance(8301)
        found = set()
        for letters in ["ab", "abc", "abcd"]:
            for text in [support.some_text(chance, letters, 8) for _ in range(6)] + ["aabbccdd"[:8] if len(letters) > 3
                                                                                    else "abbabaab"]:
                depth = self.in_seconds(telling_depth, letters, text)
                found.add(depth)
                rest = [own for own in arrangements(text) if own != text] if len(letters) == 2 else []
                for own in rest:
                    self.assertNotEqual(counts(letters, depth, own), counts(letters, depth, text))
                if depth > 1 and rest:
                    self.assertTrue(any(counts(letters, depth - 1, own) == counts(letters, depth - 1, text)
                                        for own in rest))
        self.assertGreater(len(found), 1)


class Wrong(support.TestCase):
    def test_order(self):
        flat = Table("ab", 0, [1])
        for wrong in [None, 1, "ab", [1, 0, 0], flat]:
            for call in [how_many_texts, no_text_paper]:
                self.refuses(InvalidTable, wrong, call, wrong)
            for call in [peeled, text_back, is_no_text_paper]:
                self.refuses(InvalidTable, wrong, call, wrong, None)
        for wrong in [None, 1, "", "c", "ab", "A", ["a"]]:
            self.refuses(InvalidLetters, wrong, peeled, ODD, wrong)
        for wrong in [None, True, -1, 2, "0", 10 ** 29]:
            self.refuses(InvalidNumber, wrong, text_back, table_of("ab", 2, "abba"), wrong)
        for wrong in [None, 1, "ba", "", "abcde"]:
            self.refuses(InvalidLetters, wrong, telling_depth, wrong, None)
        for wrong in [None, 1, "c", "A", ["a"]]:
            self.refuses(InvalidText, wrong, telling_depth, "ab", wrong)
