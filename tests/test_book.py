"""Points [91] to [93]: a live book."""

from skipcounts.book import Book, is_deed
from skipcounts.errors import InvalidDeed, InvalidList, InvalidNumber, InvalidSum, InvalidText, NothingToRedo
from skipcounts.errors import NothingToUndo, SkipError
from skipcounts.sums import Sum
from tests import support

A, AB, TURN = Sum([("a", 1)]), Sum([("ab", 1)]), Sum([("a", 1), ("b", -1)])
FAR = 10 ** 29


class PlainBook:
    """A book that keeps all its former states, and the states that it was in behind them."""

    def __init__(self, text, sums):
        self.states = [(text, list(sums), [])]
        self.undone = []

    def text(self):
        return self.states[-1][0]

    def sums(self):
        return list(self.states[-1][1])

    def log(self):
        return list(self.states[-1][2])

    def worths(self):
        return [support.plain_worth(total, self.text()) for total in self.sums()]

    def can(self, deed):
        return self.after(deed) is not None

    def after(self, deed):
        text, sums = list(self.text()), self.sums()
        if deed[0] == "put":
            if deed[1] > len(text):
                return None
            text[deed[1]:deed[1]] = deed[2]
        elif deed[0] == "take":
            if not deed[1] <= deed[2] <= len(text):
                return None
            del text[deed[1]:deed[2]]
        elif deed[0] == "mirror":
            text.reverse()
        elif deed[0] == "add":
            sums.append(deed[1])
        elif deed[1] >= len(sums):
            return None
        else:
            del sums[deed[1]]
        if len(text) > 300 or len(sums) > 8:
            return None
        return ("".join(text), sums, self.log() + [deed])

    def do(self, deed):
        self.states.append(self.after(deed))
        self.undone = []

    def undo(self):
        self.undone.append(self.states.pop())

    def redo(self):
        self.states.append(self.undone.pop())

    def copy(self):
        made = PlainBook("", [])
        made.states, made.undone = list(self.states), list(self.undone)
        return made


def some_deed(chance):
    kind = chance.choice(["put", "put", "take", "mirror", "add", "drop"])
    if kind == "put":
        return ("put", chance.randint(0, 8), support.some_text(chance, "ab", chance.choice([0, 1, 2, 3, 100])))
    if kind == "take":
        return ("take", chance.randint(0, 8), chance.choice([0, 2, 5, 90]))
    if kind == "mirror":
        return ("mirror",)
    if kind == "add":
        return ("add", support.some_sum(chance, "ab", 2, 1))
    return ("drop", chance.randint(0, 8))


class Examples(support.TestCase):
    def test_as_they_stand(self):
        book = Book("abab", [Sum([("ab", 1)]), Sum([("a", 1), ("b", -1)])])
        book.do(("put", 2, "ba"))
        self.assertEqual([book.text(), book.worths(), book.growth(("mirror",)), book.quiet(1, 3),
                          is_deed(book, ("take", 3, 7))], ["abbaab", [5, 0], [-1, 0], ["b"], False])
        book.undo()
        self.assertEqual([book.text(), book.log(), book.shortest_put(0, 2), book.worths()], ["abab", [], None, [3, 0]])


class Deeds(support.TestCase):
    def same(self, book, plain):
        self.assertEqual((book.text(), book.sums(), book.log()), (plain.text(), plain.sums(), plain.log()))

    def test_against_a_plain_book(self):
        chance = support.chance(9201)
        for _ in range(40):
            text = support.some_text(chance, "ab", chance.choice([0, 4, 200, 295]))
            sums = [support.some_sum(chance, "ab", 2, 1) for _ in range(chance.randint(0, 8))]
            pairs = [(Book(text, sums), PlainBook(text, sums))]
            for _ in range(60):
                book, plain = chance.choice(pairs)
                move = chance.random()
                if move < 0.55:
                    self.try_deed(book, plain, some_deed(chance))
                elif move < 0.75:
                    self.try_step(NothingToUndo, len(plain.states) > 1, book.undo, plain.undo)
                elif move < 0.92:
                    self.try_step(NothingToRedo, plain.undone != [], book.redo, plain.redo)
                elif len(pairs) < 4:
                    pairs.append((book.copy(), plain.copy()))
                    self.assertEqual(pairs[-1][0], book)
                for book, plain in pairs:
                    self.same(book, plain)
            for book, plain in pairs:
                while plain.undone:
                    plain.redo()
                    self.assertIsNone(book.redo())
                    self.same(book, plain)
                while len(plain.states) > 1:
                    plain.undo()
                    self.assertIsNone(book.undo())
                    self.same(book, plain)
                self.assertEqual((book.text(), book.sums(), book.log()), (text, sums, []))

    def try_deed(self, book, plain, deed):
        can = plain.can(deed)
        self.assertIs(is_deed(book, deed), can)
        if can:
            self.assertIsNone(book.do(deed))
            plain.do(deed)
        else:
            self.refuses(InvalidDeed, deed, book.do, deed)

    def try_step(self, error, can, step, plain_step):
        if can:
            self.assertIsNone(step())
            plain_step()
        else:
            with self.assertRaises(error) as told:
                step()
            self.assertFalse(hasattr(told.exception, "value"))
            self.assertIsInstance(told.exception, SkipError)

    def test_a_deed_forgets_what_was_undone_and_a_refused_one_does_not(self):
        book = Book("ab", [])
        book.do(("mirror",))
        book.undo()
        for wrong in [("put", 3, "a"), None, ("mirror",) * 2]:
            self.refuses(InvalidDeed, wrong, book.do, wrong)
            self.refuses(InvalidDeed, wrong, book.growth, wrong)
        book.redo()
        self.assertEqual(book.text(), "ba")
        book.undo()
        book.do(("put", 0, ""))
        with self.assertRaises(NothingToRedo):
            book.redo()
        self.assertEqual(book.log(), [("put", 0, "")])

    def test_what_can_be_done(self):
        book = Book("abc", [A, AB])
        for deed in [("put", 0, ""), ("put", 3, "z" * 297), ("take", 0, 0), ("take", 0, 3), ("take", 3, 3),
                     ("mirror",), ("add", Sum([])), ("drop", 0), ("drop", 1)]:
            self.assertIs(is_deed(book, deed), True)
            self.assertIsNone(book.copy().do(deed))
        for deed in [None, 1, "mirror", (), ("mirror", 1), ("mirror", None), ["mirror"], ("Mirror",), ("put",),
                     ("put", 0), ("put", 4, "a"), ("put", -1, "a"), ("put", True, "a"), ("put", None, "a"),
                     ("put", 0, "A"), ("put", 0, 1), ("put", 0, None), ("put", 0, ["a"]), ("put", 0, "a", "b"),
                     ("put", 0, "z" * 298), ["put", 0, "a"], ("take", 2, 1), ("take", 0, 4), ("take", -1, 2),
                     ("take", False, 2), ("take", 0, True), ("take", 0), ("take", 0, None), ("take", "0", 1),
                     ("take", 0, 1, 2), ("take", FAR, FAR), ("add", None), ("add", [("a", 1)]), ("add", A, AB), ("add",),
                     ("add", "a"), ("drop", 2), ("drop", -1), ("drop", True), ("drop", False), ("drop", None), ("drop",),
                     ("drop", A), ("drop", 0, 1), ("do", 1), (None,), (1, 2), (("put",), 0, "a"), {"put": 0}]:
            self.assertIs(is_deed(book, deed), False)
            self.refuses(InvalidDeed, deed, book.do, deed)
            self.refuses(InvalidDeed, deed, book.growth, deed)
        self.assertEqual((book.text(), book.sums(), book.log()), ("abc", [A, AB], []))
        self.assertFalse(is_deed(Book("abc", []), ("drop", 0)))

    def test_by_name(self):
        book = Book(sums=[AB], text="ab")
        book.do(deed=("put", 1, "ab"))
        self.assertEqual((book.text(), book.growth(deed=("mirror",))), ("aabb", [-4]))
        self.assertEqual(book.quiet(high=1, low=0), ["a"])
        self.assertEqual(book.shortest_put(size=1, place=4), "a")
        self.assertIs(is_deed(value=("mirror",), book=book), True)

    def test_eight_sums_and_nine(self):
        book = Book("a", [A] * 8)
        self.assertIs(is_deed(book, ("add", A)), False)
        self.refuses(InvalidDeed, None, book.do, None)
        book.do(("drop", 7))
        self.assertIs(is_deed(book, ("add", A)), True)
        nine = [A] * 9
        self.refuses(InvalidList, nine, Book, "a", nine)
        wrong = [A] * 8 + [None]
        self.refuses(InvalidList, wrong, Book, "a", wrong)

    def test_texts_of_300_letters_and_more(self):
        book = Book("a" * 299, [A])
        self.assertIs(is_deed(book, ("put", 5, "bb")), False)
        book.do(("put", 5, "b"))
        self.assertEqual(len(book.text()), 300)
        for deed, can in [(("put", 0, "a"), False), (("put", 300, ""), True), (("mirror",), True), (("add", A), True),
                          (("take", 0, 0), True)]:
            self.assertIs(is_deed(book, deed), can)
        # A text that is longer from the beginning on has to be at most as long when a deed is done.
        long = Book("ab" * 151, [A])
        self.assertEqual(long.worths(), [151])
        for deed, can in [(("take", 0, 1), False), (("take", 0, 2), True), (("mirror",), False), (("add", A), False),
                          (("put", 0, ""), False), (("drop", 0), False), (("take", 0, 302), True)]:
            self.assertIs(is_deed(long, deed), can)
        self.assertEqual(long.quiet(0, 0), ["a", "b"])

    def test_equality(self):
        one, other = Book("ab", [A]), Book("ab", [A])
        self.assertTrue(one == other)
        one.do(("mirror",))
        self.assertFalse(one == other)
        other.do(("mirror",))
        self.assertTrue(one == other)
        one.undo()
        self.assertFalse(one == other)
        self.assertTrue(one == Book("ab", [Sum([("a", 1)])]))
        # What can be done again does not count, the deeds that were done do.
        other.undo()
        other.do(("put", 0, ""))
        self.assertFalse(one == other)
        for value in [None, 1, "ab", ("ab", [A], []), PlainBook("ab", [A])]:
            self.assertFalse(one == value)
        self.assertFalse(Book("ab", [A]) == Book("ab", [AB]))
        self.assertFalse(Book("ab", [A]) == Book("ba", [A]))

    def test_copies_go_their_own_way(self):
        book = Book("ab", [A])
        book.do(("put", 0, "c"))
        book.do(("add", AB))
        book.undo()
        copy = book.copy()
        self.assertIs(type(copy), Book)
        copy.redo()
        copy.do(("take", 0, 1))
        self.assertEqual((book.text(), book.sums(), book.log()), ("cab", [A], [("put", 0, "c")]))
        book.redo()
        book.undo()
        book.undo()
        self.assertEqual(copy.log(), [("put", 0, "c"), ("add", AB), ("take", 0, 1)])
        copy.undo()
        copy.undo()
        copy.undo()
        self.assertEqual((copy.text(), copy.sums()), ("ab", [A]))
        self.assertTrue(copy == book)

    def test_what_is_given_and_returned_is_apart(self):
        sums = [A, AB]
        book = Book("ab", sums)
        sums.clear()
        book.sums().clear()
        book.log().append(1)
        book.worths().clear()
        self.assertEqual((book.sums(), book.worths(), book.log()), ([A, AB], [1, 1], []))


class Asked(support.TestCase):
    def test_growth(self):
        chance = support.chance(9301)
        for _ in range(150):
            book = Book(support.some_text(chance, "ab", 5), [support.some_sum(chance, "abc", 2, 2) for _ in range(2)])
            deed = some_deed(chance)
            before = (book.text(), book.worths(), book.log())
            if deed[0] in ("add", "drop") or not is_deed(book, deed):
                self.refuses(InvalidDeed, deed, book.growth, deed)
            else:
                found = book.growth(deed)
                copy = book.copy()
                copy.do(deed)
                self.assertEqual(found, [after - ahead for after, ahead in zip(copy.worths(), book.worths())])
            self.assertEqual((book.text(), book.worths(), book.log()), before)
        self.assertEqual(Book("ab", []).growth(("mirror",)), [])
        for wrong in [("add", A), ("drop", 0)]:
            self.refuses(InvalidDeed, wrong, Book("ab", [A]).growth, wrong)

    def test_quiet(self):
        chance = support.chance(9302)
        found = []
        for _ in range(100):
            text = support.some_text(chance, "abc", chance.randint(0, 6))
            sums = [support.some_sum(chance, "abd", 2, 2, 2) for _ in range(chance.randint(0, 2))]
            book = Book(text, sums)
            low = chance.randint(0, len(text))
            high = chance.randint(low, len(text))
            letters = sorted(set(text + "".join(word for total in sums for word, _ in total.terms())))
            worths = [support.plain_worth(total, text) for total in sums]
            quiet = [letter for letter in letters
                     if [support.plain_worth(total, text[:low] + letter * (high - low) + text[high:])
                         for total in sums] == worths]
            self.assertEqual(book.quiet(low, high), quiet)
            found.append(tuple(quiet))
        self.assertGreater(len(set(found)), 8)
        self.assertEqual(Book("", []).quiet(0, 0), [])
        self.assertEqual(Book("", [AB]).quiet(0, 0), ["a", "b"])
        self.assertEqual(Book("ba", []).quiet(0, 1), ["a", "b"])

    def test_shortest_put(self):
        chance = support.chance(9303)
        found = []
        for _ in range(120):
            text = support.some_text(chance, "abc", chance.randint(0, 5))
            sums = [support.some_sum(chance, "abc", 3, 3, 2) for _ in range(chance.randint(0, 2))]
            book = Book(text, sums)
            place, size = chance.randint(0, len(text)), chance.randint(1, 4)
            letters = sorted(set("".join(word for total in sums for word, _ in total.terms())))
            worths = book.worths()
            words = [word for word in support.all_words(letters, size) if word] if letters else []
            right = [word for word in words
                     if [total.worth(text[:place] + word + text[place:]) for total in sums] == worths]
            self.assertEqual(book.shortest_put(place, size), right[0] if right else None)
            found.append(right[0] if right else None)
        self.assertGreater(len(set(found)), 6)

    def test_shortest_put_at_edges(self):
        for size in range(1, 5):
            self.assertIsNone(Book("ab", []).shortest_put(0, size))
            self.assertIsNone(Book("ab", [Sum([]), Sum([("", 5)])]).shortest_put(2, size))
        self.assertIsNone(Book("ab", [A, TURN]).shortest_put(0, 4))
        self.assertEqual(Book("", [TURN]).shortest_put(0, 1), None)
        self.assertEqual(Book("", [TURN]).shortest_put(0, 2), "ab")
        self.assertEqual(Book("", [AB]).shortest_put(0, 4), "a")
        self.assertEqual(Book("a" * 300, [Sum([("b", 1), ("c", -1)])]).shortest_put(300, 4), "bc")
        self.assertEqual(Book("", [TURN, Sum([("ab", 1), ("ba", -1)])]).shortest_put(0, 4), "abba")

    def test_at_the_limits(self):
        chance = support.chance(9304)
        for letters in ["ab", "abcd"]:
            sums = [support.some_sum(chance, letters, 5, 12) for _ in range(8)]
            book = Book(support.some_text(chance, letters, 300), sums)
            self.in_seconds(book.shortest_put, 150, 4)
            self.in_seconds(book.quiet, 100, 200)
            self.in_seconds(book.growth, ("mirror",))
            full = Book(book.text(), [support.some_sum(chance, letters, 40, 12) for _ in range(8)])
            self.in_seconds(full.quiet, 100, 200)
            self.in_seconds(full.worths)
        wide = Book(support.ALL_LETTERS * 11, [support.some_sum(chance, support.ALL_LETTERS, 40, 12) for _ in range(8)])
        self.in_seconds(wide.quiet, 0, 286)

    def test_many_deeds(self):
        book = Book("", [AB])
        for at in range(400):
            book.do(("put", at % 150, "ab") if at < 150 else ("mirror",))
        self.assertEqual(len(book.log()), 400)
        copy = self.in_seconds(book.copy)
        for _ in range(400):
            book.undo()
        self.assertEqual((book.text(), book.log()), ("", []))
        for _ in range(400):
            book.redo()
        self.assertTrue(book == copy)


class Wrong(support.TestCase):
    def test_books(self):
        for wrong in [None, 1, "A", ["a"], ("a",)]:
            self.refuses(InvalidText, wrong, Book, wrong, None)
        for wrong in [None, 1, "a", (), (A,), {}, [A] * 9]:
            self.refuses(InvalidList, wrong, Book, "a", wrong)
        for wrong in [None, 1, "a", [], [("a", 1)], (A,)]:
            self.refuses(InvalidSum, wrong, Book, "a", [A, wrong, 7])
        for wrong in [None, 1, "ab", [], PlainBook("a", [])]:
            self.refuses(InvalidDeed, wrong, is_deed, wrong, None)

    def test_numbers(self):
        book = Book("abc", [A])
        for wrong in [None, True, -1, 4, "1", [1], FAR]:
            self.refuses(InvalidNumber, wrong, book.quiet, wrong, None)
            self.refuses(InvalidNumber, wrong, book.shortest_put, wrong, None)
        for wrong in [None, True, 1, 4, "1", [1], FAR]:
            self.refuses(InvalidNumber, wrong, book.quiet, 2, wrong)
        for wrong in [None, True, 0, 5, "1", [1], FAR]:
            self.refuses(InvalidNumber, wrong, book.shortest_put, 3, wrong)
