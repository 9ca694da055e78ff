"""Point [90]: lines of sums."""

import re

from skipcounts.errors import InvalidLines, InvalidSum, TooLong
from skipcounts.printer import line_of
from skipcounts.reader import right_part, sum_of_line
from skipcounts.sums import Sum, plus
from tests import support

LOOSE = re.compile(r"(?:0|[+-](?:0|[1-9][0-9]*)\[[a-z]*\](?: [+-](?:0|[1-9][0-9]*)\[[a-z]*\])*)\Z")
# All that may follow a beginning so that a loose line results.
ENDINGS = ["", "1[]", "[]", "]", "+1[]", "0"]
SIGNS = "+-0159[]ab z"


def is_loose(line):
    return LOOSE.match(line) is not None


def plain_sum(line):
    """What a loose line tells, read by taking it apart at its blanks."""
    if line == "0":
        return Sum([])
    terms = []
    for part in line.split(" "):
        number, word = re.fullmatch(r"([+-]\d+)\[([a-z]*)\]", part).groups()
        terms.append((word, int(number)))
    return Sum(terms)


def plain_right_part(line):
    for size in reversed(range(len(line) + 1)):
        if any(is_loose(line[:size] + ending) for ending in ENDINGS):
            return line[:size]
    return None


def some_line(chance):
    parts = []
    for _ in range(chance.randint(1, 3)):
        number = chance.choice(["0", "1", "9", "10", "205", str(10 ** 29)])
        parts.append(chance.choice("+-") + number + "[" + support.some_text(chance, "abz", chance.randint(0, 3)) + "]")
    return " ".join(parts)


class Examples(support.TestCase):
    def test_as_they_stand(self):
        self.assertEqual([line_of(Sum([("ab", 3), ("a", -2), ("", 1)])), line_of(Sum([])),
                          sum_of_line("+1[ab] +0[] -3[ab]").terms(), sum_of_line("0").terms()],
                         ["+1[] -2[a] +3[ab]", "0", [("ab", -2)], []])
        self.assertEqual([right_part("+1[ab] 5"), right_part("-0[]x"), right_part("01"), right_part("+12[aB]")],
                         ["+1[ab] ", "-0[]", "0", "+12[a"])


class Lines(support.TestCase):
    def test_there_and_back(self):
        chance = support.chance(9001)
        for _ in range(200):
            total = support.some_sum(chance, "abz", 5, 4, chance.choice([3, 10 ** 29]))
            line = line_of(total)
            self.assertTrue(is_loose(line))
            self.assertEqual(sum_of_line(line), total)
            self.assertEqual(right_part(line), line)
            expected = " ".join(("+" if number > 0 else "-") + str(abs(number)) + "[" + word + "]"
                                for word, number in total.terms())
            self.assertEqual(line, expected or "0")

    def test_lines_are_equal_exactly_if_sums_are(self):
        chance = support.chance(9002)
        for _ in range(200):
            one, other = [support.some_sum(chance, "a", 2, 1, 1) for _ in "ab"]
            self.assertEqual(line_of(one) == line_of(other), one == other)

    def test_loose_lines(self):
        chance = support.chance(9003)
        for _ in range(200):
            line = some_line(chance)
            self.assertEqual(sum_of_line(line), plain_sum(line))
            other = some_line(chance)
            self.assertEqual(sum_of_line(line + " " + other), plus(sum_of_line(line), sum_of_line(other)))
            self.assertEqual(line_of(sum_of_line(line_of(sum_of_line(line)))), line_of(plain_sum(line)))

    def test_long_words(self):
        self.assertEqual(sum_of_line("+1[abcdefghijkl]").terms(), [("abcdefghijkl", 1)])
        self.refuses_number(TooLong, 13, sum_of_line, "+1[abcdefghijklm]")
        self.refuses_number(TooLong, 13, sum_of_line, "+0[a] +0[abcdefghijklm] +1[" + "a" * 400 + "]")
        self.refuses_number(TooLong, 400, sum_of_line, "+0[a] +0[" + "a" * 400 + "] +1[abcdefghijklm]")
        wrong = "+1[abcdefghijklm] "
        self.refuses(InvalidLines, wrong, sum_of_line, wrong)
        self.assertEqual(right_part("+1[" + "a" * 1996), "+1[" + "a" * 1996)

    def test_many_figures(self):
        number = 10 ** 999 + 7
        total = Sum([("a", -number), ("", number)])
        self.assertEqual(line_of(total), "+" + str(number) + "[] -" + str(number) + "[a]")
        line = "-" + str(number) + "[a]"
        self.assertEqual(sum_of_line(line).terms(), [("a", -number)])

    def test_2000_signs_and_2001(self):
        term = "+" + "7" * 1996 + "[a]"
        self.assertEqual(len(term), 2000)
        self.assertEqual(self.in_seconds(sum_of_line, term).terms(), [("a", int("7" * 1996))])
        self.assertEqual(self.in_seconds(right_part, term), term)
        for line in ["+" + "7" * 1997 + "[a]", "x" * 2001, "0" + "a" * 2000]:
            self.refuses(InvalidLines, line, right_part, line)
        many = " ".join(["+1[a]"] * 333)
        self.assertEqual(self.in_seconds(sum_of_line, many).terms(), [("a", 333)])
        self.assertEqual(self.in_seconds(right_part, many + " 1"), many + " ")


class Bent(support.TestCase):
    def check(self, line):
        if is_loose(line):
            self.assertEqual(sum_of_line(line), plain_sum(line))
        else:
            self.refuses(InvalidLines, line, sum_of_line, line)
        self.assertEqual(right_part(line), plain_right_part(line), line)

    def test_single_signs(self):
        chance = support.chance(9004)
        for line in ["0", "+1[ab] -20[] +0[a]", "-105[b]", "+0[] -0[]", some_line(chance)]:
            for at in range(len(line) + 1):
                self.check(line[:at])
                self.check(line[at:])
                self.check(line[:at] + line[at + 1:])
                self.check(line[:at] + line[at:at + 2][::-1] + line[at + 2:])
                for sign in SIGNS + "A_.\n\t,(){":
                    self.check(line[:at] + sign + line[at:])
                    self.check(line[:at] + sign + line[at + 1:])

    def test_all_short_strings(self):
        strings = [""]
        for _ in range(4):
            strings = [string + sign for string in strings for sign in "+0[]a 1"]
            for string in strings:
                self.check(string)
        self.check("")

    def test_zeros_ahead_of_figures(self):
        for line in ["00", "+00[]", "+01[a]", "-010[a]", "+1[a] +00[a]", "+1[a] 0", "0 +1[a]", "+0"]:
            self.assertFalse(is_loose(line))
            self.check(line)

    def test_other_signs_than_ascii(self):
        for line in ["+\u0661[a]", "+1[\u00e4]", "\uff10", "+\u00b2[a]", "\u22121[a]"]:
            self.refuses(InvalidLines, line, sum_of_line, line)
        self.assertEqual(right_part("+\u0661[a]"), "+")
        self.assertEqual(right_part("+1[\u00e4]"), "+1[")


class Wrong(support.TestCase):
    def test_values(self):
        for wrong in [None, True, 0, 1, [], ["+1[a]"], ("0",), {}, Sum([]), b"0"]:
            self.refuses(InvalidLines, wrong, sum_of_line, wrong)
            self.refuses(InvalidLines, wrong, right_part, wrong)
        for wrong in [None, 0, "0", [], [("a", 1)]]:
            self.refuses(InvalidSum, wrong, line_of, wrong)
