"""Points [66] to [69]: kept texts."""

from skipcounts.errors import InvalidKept, InvalidLetters, InvalidList, InvalidNumber, InvalidWord, TooLong, TooMany
from skipcounts.kepttexts import Kept, kept_count, kept_counts, kept_cut, kept_part, kept_reading
from skipcounts.kepttexts import kept_reading_number, reached, written
from skipcounts.readings import count, counts, is_reading, reading, reading_number
from tests import support

FAR = 10 ** 29


def plain_written(kept):
    """What a kept text writes, by putting copies one behind the other."""
    made = ""
    for part, times in kept.pieces():
        for _ in range(times):
            made += part if isinstance(part, str) else plain_written(part)
    return made


def some_kept(chance, letters, deep=3):
    pieces = []
    for _ in range(chance.randint(0, 3)):
        if deep and chance.random() < 0.5:
            part = some_kept(chance, letters, deep - 1)
        else:
            part = support.some_text(chance, letters, chance.randint(0, 3))
        pieces.append((part, chance.choice([0, 1, 1, 2, 3])))
    return Kept(pieces)


def some_short(chance, letters, most=40):
    while True:
        kept = some_kept(chance, letters)
        if kept.length() <= most:
            return kept


def many_tuples(kept):
    return len(kept.pieces()) + sum(many_tuples(part) for part, _ in kept.pieces() if isinstance(part, Kept))


def with_far_parts(chance, kept):
    """A kept text that writes the same, in which parts that write very many letters are taken 0 times."""
    pieces = []
    for part, times in kept.pieces():
        if chance.random() < 0.5:
            pieces.append((chance.choice(FAR_PARTS), 0))
        pieces.append((part if isinstance(part, str) else with_far_parts(chance, part), times))
    return Kept(pieces + [(chance.choice(FAR_PARTS), 0)])


def nested(depth, text="ab", times=2):
    kept = Kept([(text, times)])
    for _ in range(depth - 1):
        kept = Kept([(kept, times)])
    return kept


def wide(many):
    """A kept text whose number of tuples is just so many."""
    return Kept([("a", 1)] * many)


# What they write is longer than any string can be, and longer than memory has room for.
FAR_PARTS = [Kept([("ab", FAR)]), Kept([("c", 10 ** 15)])]


class Examples(support.TestCase):
    def test_as_they_stand(self):
        far = 10 ** 29
        kept = Kept([("ab", far)])
        more = Kept([(kept, 2), ("b", 3)])
        self.assertEqual(
            [kept_count("ab", kept) == far * (far + 1) // 2, more.length() - 4 * far,
             written(kept_cut(more, 4 * far - 2, 4 * far + 2)), kept_counts("ab", 1, more) == [1, 2 * far, 2 * far + 3]],
            [True, 3, "abbb", True])
        self.assertEqual(
            [reached("ab", kept, 4), reached("ba", Kept([("ab", 1)]), 1), kept_reading("ab", kept, far),
             kept_reading_number("ab", kept, (2, 3)) == far,
             kept_part(Kept([("abba", 1)]), Kept([("baab", 1)]), 3)], [6, None, (2, 3), True, "aab"])


class Writing(support.TestCase):
    def test_against_writing_out(self):
        chance = support.chance(6601)
        for _ in range(150):
            kept = some_short(chance, "abc", 300)
            text = plain_written(kept)
            self.assertEqual(kept.length(), len(text))
            self.assertEqual(written(kept), text)

    def test_cuts(self):
        chance = support.chance(6602)
        for _ in range(80):
            kept = some_short(chance, "abc")
            text = plain_written(kept)
            for low in range(len(text) + 1):
                for high in range(low, len(text) + 1):
                    cut = kept_cut(kept, low, high)
                    self.assertIs(type(cut), Kept)
                    self.assertEqual((plain_written(cut), cut.length()), (text[low:high], high - low))
                    self.assertEqual(written(cut), text[low:high])
                    self.assertEqual(kept_count("ab", cut), count("ab", text[low:high]))

    def test_far_parts_taken_no_times(self):
        for far in FAR_PARTS + [Kept([(FAR_PARTS[0], FAR), ("c", 1)])]:
            for kept, text in [(Kept([(far, 0)]), ""), (Kept([(far, 0), ("ba", 2)]), "baba"),
                               (Kept([("ba", 2), (far, 0)]), "baba"), (Kept([("b", 1), (far, 0), ("a", 2)]), "baa"),
                               (Kept([(Kept([(far, 1)]), 0), ("a", 1)]), "a"), (Kept([(Kept([(far, 0)]), FAR)]), ""),
                               (Kept([(Kept([("c", 2), (far, 0)]), 3), ("b", 1)]), "ccccccb"),
                               (Kept([(far, 0), ("a", 300)]), "a" * 300)]:
                self.assertEqual((kept.length(), written(kept)), (len(text), text))
            self.refuses_number(TooLong, 301, written, Kept([(far, 0), ("a", 301)]))
            self.refuses_number(TooLong, far.length(), written, Kept([(far, 1), (far, 0)]))

    def test_far_parts_taken_no_times_anywhere(self):
        chance = support.chance(6603)
        for _ in range(60):
            short = some_short(chance, "ab", 20)
            while many_tuples(short) > 10:
                short = some_short(chance, "ab", 20)
            kept, text = with_far_parts(chance, short), plain_written(short)
            self.assertEqual((kept.length(), written(kept)), (len(text), text))
            low = chance.randint(0, len(text))
            high = chance.randint(low, len(text))
            self.assertEqual(written(kept_cut(kept, low, high)), text[low:high])
            self.assertEqual(kept_counts("abc", 3, kept), counts("abc", 3, text))
            self.assertIsNone(kept_part(kept, short, 4))
            many = count("ab", text)
            self.assertEqual(reached("ab", kept, many), reached("ab", short, many))
            for number in range(many):
                self.assertEqual(kept_reading("ab", kept, number), reading("ab", text, number))
                self.assertEqual(kept_reading_number("ab", kept, reading("ab", text, number)), number)

    def test_cuts_at_ends_of_far_parts(self):
        # Between two copies that are cut stand 0 whole ones.
        for far in FAR_PARTS:
            twice, size = Kept([(far, 2)]), far.length()
            end, start = written(kept_cut(far, size - 2, size)), written(kept_cut(far, 0, 2))
            self.assertEqual(written(kept_cut(twice, size - 2, size + 2)), end + start)
            self.assertEqual(written(kept_cut(Kept([(twice, 3)]), 4 * size - 2, 4 * size + 2)), end + start)

    def test_pieces_are_those_given(self):
        inner = Kept([("a", 2)])
        given = [(inner, 3), ("b", 0), ("", FAR)]
        kept = Kept(given)
        self.assertEqual(kept.pieces(), [(inner, 3), ("b", 0), ("", FAR)])
        given.append(("c", 1))
        self.assertEqual(len(kept.pieces()), 3)
        kept.pieces().clear()
        self.assertEqual(len(kept.pieces()), 3)
        self.assertIs(kept.pieces()[0][0], inner)
        self.assertFalse(kept == Kept([(inner, 3), ("b", 0), ("", FAR)]))
        self.assertTrue(kept == kept)

    def test_edges(self):
        for kept in [Kept([]), Kept([("", FAR)]), Kept([("ab", 0)]), Kept([(Kept([]), FAR)]), Kept([(wide(3), 0)])]:
            self.assertEqual((kept.length(), written(kept)), (0, ""))
            self.assertEqual(written(kept_cut(kept, 0, 0)), "")
            self.assertEqual((kept_count("", kept), kept_count("a", kept)), (1, 0))
            self.refuses(InvalidNumber, 1, kept_cut, kept, 0, 1)
        self.assertEqual(written(Kept([("a", 300)])), "a" * 300)
        self.refuses_number(TooLong, 301, written, Kept([("a", 301)]))
        self.refuses_number(TooLong, 2 * FAR, written, Kept([("ab", FAR), ("", FAR)]))
        far = Kept([("ab", FAR)])
        self.assertEqual(kept_cut(far, 0, 2 * FAR).length(), 2 * FAR)
        self.assertEqual(written(kept_cut(far, FAR, FAR)), "")
        self.assertEqual(written(kept_cut(far, FAR - 3, FAR + 3)), "bababa")
        self.assertEqual(kept_count("ab", kept_cut(far, 1, 2 * FAR - 1)), (FAR - 1) * (FAR - 2) // 2)

    def test_many_tuples(self):
        self.assertEqual(wide(60).length(), 60)
        given = [("a", 1)] * 61
        self.refuses_number(TooMany, 61, Kept, given)
        # A kept text that is named twice counts twice, also where it is taken 0 times.
        self.assertEqual(Kept([(wide(29), 1), (wide(29), 0)]).length(), 29)
        self.refuses_number(TooMany, 61, Kept, [(wide(29), 1), (wide(29), 0), ("", 0)])
        inner = wide(19)
        self.assertEqual(Kept([(inner, 1), (Kept([(inner, 1)]), 1), ("a", 1)] + [(wide(17), 1)]).length(), 56)
        self.refuses_number(TooMany, 61, Kept, [(inner, 1), (Kept([(inner, 1)]), 1), ("a", 1), (wide(18), 1)])
        self.refuses_number(TooMany, 121, Kept, [(wide(60), 1), (wide(59), 1)])

    def test_many_letters(self):
        most = 10 ** 60
        block = Kept([("a", FAR), ("", 0)])
        near = Kept([(block, FAR), (block, 9 * FAR), (block, 90 * FAR - 1), (block, 1)])
        self.assertEqual(near.length(), most)
        self.assertEqual(Kept([("a", most)]).length(), most)
        self.refuses_number(TooLong, most + 1, Kept, [("a", most + 1)])
        self.refuses_number(TooLong, most + 1, Kept, [(near, 1), ("a", 1)])
        self.refuses_number(TooLong, 2 * most, Kept, [(near, 2)])
        self.assertEqual(Kept([(near, 0), ("a", 7)]).length(), 7)
        # Many tuples are told ahead of many letters, and both behind a wrong list.
        self.refuses_number(TooMany, 61, Kept, [(near, 2)] + [("a", 1)] * 48)
        wrong = [(near, 2)] + [("a", 1)] * 60 + [("A", 1)]
        self.refuses(InvalidList, wrong, Kept, wrong)

    def test_nested_eight_deep(self):
        kept = nested(8)
        self.assertEqual(kept.length(), 512)
        text = "ab" * 256
        self.assertEqual(kept_count("aba", kept), count("aba", text))
        self.assertEqual(written(kept_cut(kept, 101, 399)), text[101:399])
        self.assertEqual(kept_reading("abab", kept, 123456), reading("abab", text, 123456))
        self.assertEqual(reached("bb", kept, 1000), min(size for size in range(512) if count("bb", text[:size]) >= 1000))


class Counts(support.TestCase):
    def test_against_writing_out(self):
        chance = support.chance(6701)
        for _ in range(80):
            kept = some_short(chance, "abc", 60)
            text = plain_written(kept)
            for _ in range(5):
                word = support.some_text(chance, "abc", chance.randint(0, 6))
                self.assertEqual(kept_count(word, kept), count(word, text))
            for letters in ["a", "ab", "bcd"]:
                depth = chance.randint(0, 4)
                self.assertEqual(kept_counts(letters, depth, kept), counts(letters, depth, text))

    def test_first_word_that_parts(self):
        chance = support.chance(6702)
        alike = 0
        for _ in range(150):
            one, other = some_short(chance, "ab", 12), some_short(chance, "abc" if chance.random() < 0.2 else "ab", 12)
            if chance.random() < 0.5:
                other = Kept([(support.some_text(chance, "ab", 1), 0)] + other.pieces())
                one = Kept(other.pieces()[::-1])
            depth = chance.randint(0, 4)
            texts = [plain_written(kept) for kept in (one, other)]
            apart = [word for word in support.all_words("abc", depth) if count(word, texts[0]) != count(word, texts[1])]
            self.assertEqual(kept_part(one, other, depth), apart[0] if apart else None)
            alike += not apart
        self.assertGreater(alike, 20)

    def test_edges(self):
        self.assertIsNone(kept_part(Kept([]), Kept([("", FAR)]), 4))
        self.assertIsNone(kept_part(Kept([("a", 1)]), Kept([("b", 1)]), 0))
        self.assertEqual(kept_part(Kept([("a", 1)]), Kept([("b", 1)]), 1), "a")
        # Letters that are written nowhere do not count.
        self.assertIsNone(kept_part(Kept([("abcdefghijkl", 0), ("a", 1)]), Kept([(Kept([("mnop", 3)]), 0), ("a", 1)]), 4))
        self.assertEqual(kept_part(Kept([("ab", FAR)]), Kept([("ab", FAR - 1), ("ba", 1)]), 4), "ab")
        self.assertEqual(kept_counts("a", 0, Kept([("a", FAR)])), [1])
        self.assertEqual(kept_counts("c", 2, Kept([("a", FAR)])), [1, 0, 0])
        self.assertEqual(kept_count("aa", Kept([("a", FAR)])), FAR * (FAR - 1) // 2)
        self.assertEqual(kept_count("aaaaaaa", Kept([("aa", 4)])), 8)


class Reached(support.TestCase):
    def test_against_listing(self):
        chance = support.chance(6801)
        for _ in range(80):
            kept = some_short(chance, "ab", 25)
            text = plain_written(kept)
            word = support.some_text(chance, "ab", chance.randint(0, 4))
            numbers = [count(word, text[:size]) for size in range(len(text) + 1)]
            for number in sorted(set(numbers)) + [numbers[-1] + 1, numbers[-1] // 2, numbers[-1] // 3 + 1]:
                sizes = [size for size, own in enumerate(numbers) if own >= number]
                self.assertEqual(reached(word, kept, number), sizes[0] if sizes else None)

    def test_edges(self):
        kept = Kept([("ab", FAR)])
        self.assertEqual(reached("", Kept([]), 0), 0)
        self.assertEqual(reached("", Kept([]), 1), 0)
        self.assertIsNone(reached("", kept, 2))
        self.assertEqual(reached("a", kept, 0), 0)
        self.assertEqual(reached("a", kept, FAR), 2 * FAR - 1)
        self.assertIsNone(reached("a", kept, FAR + 1))
        self.assertEqual(reached("ab", kept, FAR * (FAR + 1) // 2), 2 * FAR)
        self.assertEqual(reached("ab", kept, FAR * (FAR + 1) // 2 - FAR), 2 * FAR - 2)
        self.assertEqual(reached("ab", kept, FAR * (FAR + 1) // 2 - FAR + 1), 2 * FAR)
        self.assertIsNone(reached("ab", Kept([]), 10 ** 100))


class Readings(support.TestCase):
    def test_against_writing_out(self):
        chance = support.chance(6901)
        for _ in range(60):
            kept = some_short(chance, "ab", 20)
            text = plain_written(kept)
            word = support.some_text(chance, "ab", chance.randint(0, 4))
            every = support.all_readings(word, text)
            for number, places in list(enumerate(every))[::max(1, len(every) // 25)]:
                self.assertEqual(kept_reading(word, kept, number), places)
                self.assertEqual(kept_reading_number(word, kept, places), number)
            self.refuses(InvalidNumber, len(every), kept_reading, word, kept, len(every))

    def test_far_away(self):
        kept = Kept([(Kept([("aab", FAR), ("ba", 3)]), FAR - 1), ("abb", 2)])
        for word in ["ab", "bbaab", "ababab", "", "a"]:
            many = kept_count(word, kept)
            for number in [0, 1, many // 7, many // 2, many - 2, many - 1]:
                if 0 <= number < many:
                    places = self.in_seconds(kept_reading, word, kept, number)
                    self.assertIs(type(places), tuple)
                    self.assertEqual(self.in_seconds(kept_reading_number, word, kept, places), number)
            if word:
                self.assertEqual(kept_reading(word, kept, many - 1)[-1], kept.length() - (1 if word[-1] == "b" else 3))

    def test_only_readings_are_let(self):
        kept, text = Kept([("ab", 2), ("b", 1)]), "ababb"
        for value in [None, 0, [0, 1], (0,), (0, 1, 2), (1, 0), (0, 0), (0, 2), (0, 5), (0, True), (False, 1), (-2, 1),
                      ("0", 1), (0, None), (FAR, FAR + 1), ((0,), 1), (2, 1), (4, 3)]:
            self.assertFalse(is_reading("ab", text, value))
            self.refuses(InvalidList, value, kept_reading_number, "ab", kept, value)
        for places in support.all_readings("ab", text):
            self.assertEqual(kept_reading_number("ab", kept, places), reading_number("ab", text, places))
        for value in [(0, 0), (2, 2), (2, 0), (0, 2, 2), (0, 5)]:
            self.refuses(InvalidList, value, kept_reading_number, "aa", kept, value)
        self.assertEqual(kept_reading_number("aa", kept, (0, 2)), 0)
        self.assertEqual(kept_reading_number("", kept, ()), 0)
        wrong = (0,)
        self.refuses(InvalidList, wrong, kept_reading_number, "", kept, wrong)
        self.assertEqual(kept_reading("", Kept([]), 0), ())
        self.refuses(InvalidNumber, 1, kept_reading, "", Kept([]), 1)
        self.refuses(InvalidNumber, 0, kept_reading, "a", Kept([]), 0)


class Limits(support.TestCase):
    def test_end_within_seconds(self):
        chance = support.chance(6902)
        kept = None
        for level in range(8):
            pieces = [(support.some_text(chance, "abcd", 12), 3 + level) for _ in range(6)]
            kept = Kept(pieces + ([] if kept is None else [(kept, 10 ** 5)]) + [("", FAR)][:level % 2])
        self.assertLessEqual(kept.length(), 10 ** 60)
        for word in ["abcdab", "aaaaaa", "dcbadc"]:
            many = self.in_seconds(kept_count, word, kept)
            places = self.in_seconds(kept_reading, word, kept, many // 3)
            self.assertEqual(self.in_seconds(kept_reading_number, word, kept, places), many // 3)
            size = self.in_seconds(reached, word, kept, many // 2)
            self.assertGreaterEqual(kept_count(word, kept_cut(kept, 0, size)), many // 2)
            self.assertLess(kept_count(word, kept_cut(kept, 0, size - 1)), many // 2)
        self.in_seconds(kept_counts, "abcd", 4, kept)
        self.assertIsNone(self.in_seconds(kept_part, kept, Kept([(kept, 1)]), 4))
        cut = self.in_seconds(kept_cut, kept, kept.length() // 3, kept.length() // 2)
        self.in_seconds(kept_counts, "abcd", 4, cut)
        joined = [kept_cut(kept, low, high) for low, high in [(0, kept.length() // 3), (kept.length() // 2, kept.length())]]
        self.assertEqual(kept.length() - sum(each.length() for each in joined), cut.length())


class Wrong(support.TestCase):
    def test_pieces(self):
        kept = Kept([])
        for wrong in [None, 1, "a", (), {}, kept, [None], ["a"], [kept], [("a",)], [("a", 1, 1)], [["a", 1]],
                      [("a", -1)], [("a", True)], [("a", None)], [("a", "1")], [("A", 1)], [(1, 1)], [(None, 1)],
                      [(["a"], 1)], [(kept, -1)], [(kept, kept)], [("a", 1), (kept, True)], [(("a", 1), 1)]]:
            self.refuses(InvalidList, wrong, Kept, wrong)

    def test_order(self):
        kept = Kept([("ab", 2)])
        self.refuses(InvalidWord, "A", kept_count, "A", None)
        self.refuses(InvalidKept, "ab", kept_count, "ab", "ab")
        self.refuses(InvalidWord, None, kept_reading, None, None, None)
        self.refuses(InvalidKept, None, kept_reading, "a", None, None)
        self.refuses(InvalidLetters, "ba", kept_counts, "ba", None, None)
        self.refuses(InvalidNumber, 5, kept_counts, "ab", 5, None)
        self.refuses(InvalidKept, None, kept_counts, "ab", 4, None)
        self.refuses(InvalidKept, 1, kept_part, 1, 2, None)
        self.refuses(InvalidKept, 2, kept_part, kept, 2, None)
        self.refuses(InvalidNumber, 5, kept_part, kept, kept, 5)
        for wrong in [None, True, -1, 5, "1", 10 ** 40]:
            self.refuses(InvalidNumber, wrong, kept_cut, kept, wrong, None)
        for wrong in [None, True, 1, 5, "1", 10 ** 40]:
            self.refuses(InvalidNumber, wrong, kept_cut, kept, 2, wrong)
        for wrong in [None, True, -1, "1", 3, 10 ** 40]:
            self.refuses(InvalidNumber, wrong, kept_reading, "ab", kept, wrong)
        for wrong in [None, True, -1, "1", (1,)]:
            self.refuses(InvalidNumber, wrong, reached, "ab", kept, wrong)
