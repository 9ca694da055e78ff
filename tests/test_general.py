"""Points [1] to [4]: what holds for all functions, told by the list of all calls."""

import copy
import inspect

from skipcounts.sums import Sum
from tests import support
from tests.calls import CALLS


def plain(value):
    """A value without objects, so that equal ones can be told."""
    if hasattr(value, "terms"):
        return ("sum", value.terms())
    if hasattr(value, "numbers"):
        return ("table", value.letters(), value.depth(), value.numbers())
    if hasattr(value, "out"):
        return ("machine", value.letters(), value.start(), value.tables(), value.out())
    if hasattr(value, "log"):
        return ("book", value.text(), plain(value.sums()), plain(value.log()))
    if hasattr(value, "pieces"):
        return ("kept", value.length(), [plain(item) for item in value.pieces()])
    if hasattr(value, "moves"):
        return ("finite", value.letters(), value.moves(), value.ends())
    if isinstance(value, (list, tuple)):
        return (type(value).__name__, [plain(item) for item in value])
    if isinstance(value, dict):
        return ("dict", [(key, plain(item)) for key, item in value.items()])
    return (type(value).__name__, value)


def lists_in(value):
    if isinstance(value, (list, tuple)):
        found = [value] if isinstance(value, list) else []
        for item in value:
            found.extend(lists_in(item))
        return found
    return []


def spoil(value):
    """Change all lists in a value that was returned or handed in."""
    for each in lists_in(value):
        each.append("spoiled")
        each.reverse()


class Arguments(support.TestCase):
    def test_names_are_as_written(self):
        for call, arguments in CALLS:
            names = list(inspect.signature(call).parameters)
            self.assertEqual(names[:len(arguments)], [name for name, _, _, _ in arguments], call)

    def test_by_position_and_by_name(self):
        for call, arguments in CALLS:
            by_position = call(*[value for _, value, _, _ in arguments])
            by_name = call(**{name: value for name, value, _, _ in arguments})
            self.assertEqual(plain(by_position), plain(by_name), call)
            by_name = call(**{name: value for name, value, _, _ in arguments[::-1]})
            self.assertEqual(plain(by_position), plain(by_name), call)

    def test_each_wrong_value_is_refused(self):
        for call, arguments in CALLS:
            for at, (name, _, error, fits) in enumerate(arguments):
                if error is None:
                    continue
                refused = 0
                for wrong in support.any_values():
                    if fits(wrong):
                        continue
                    given = [value for _, value, _, _ in arguments]
                    given[at] = wrong
                    self.refuses(error, wrong, call, *given)
                    refused += 1
                self.assertGreater(refused, 10, (call, name))

    def test_first_wrong_argument_is_told(self):
        for call, arguments in CALLS:
            names = [at for at, (_, _, error, _) in enumerate(arguments) if error is not None]
            for first in names:
                for second in names:
                    if second <= first:
                        continue
                    for one in [None, True]:
                        if arguments[first][3](one):
                            continue
                        given = [value for _, value, _, _ in arguments]
                        given[first] = one
                        given[second] = {"wrong": []}
                        self.refuses(arguments[first][2], one, call, *given)
                        for at in names:
                            if at > first:
                                given[at] = {"wrong": []}
                        self.refuses(arguments[first][2], one, call, *given)

    def test_any_value_is_let_where_something_is_judged(self):
        for call, arguments in CALLS:
            for at, (_, _, error, _) in enumerate(arguments):
                if error is not None:
                    continue
                for any_value in support.any_values():
                    given = [value for _, value, _, _ in arguments]
                    given[at] = any_value
                    self.assertIs(type(call(*given)), bool, (call, any_value))


class Results(support.TestCase):
    def test_arguments_stay_as_they_are(self):
        for call, arguments in CALLS:
            given = [copy.deepcopy(value) for _, value, _, _ in arguments]
            before = plain(given)
            call(*given)
            self.assertEqual(before, plain(given), call)
            for at, (_, _, error, fits) in enumerate(arguments):
                if error is None:
                    continue
                for wrong in support.any_values():
                    if not fits(wrong):
                        before = plain(wrong)
                        try:
                            call(*given[:at], wrong, *given[at + 1:])
                        except ValueError:
                            pass
                        self.assertEqual(before, plain(wrong), call)

    def test_what_is_returned_belongs_to_the_caller(self):
        for call, arguments in CALLS:
            given = [value for _, value, _, _ in arguments]
            first = call(*given)
            told = plain(first)
            spoil(first)
            self.assertEqual(told, plain(call(*given)), call)

    def test_arguments_changed_later_change_no_result(self):
        for call, arguments in CALLS:
            given = [copy.deepcopy(value) for _, value, _, _ in arguments]
            found = call(*given)
            told = plain(found)
            spoil(given)
            self.assertEqual(told, plain(found), call)

    def test_no_list_occurs_twice(self):
        for call, arguments in CALLS:
            given = [value for _, value, _, _ in arguments]
            seen = lists_in(call(*given)) + lists_in(given)
            self.assertEqual(len(seen), len({id(each) for each in seen}), call)

    def test_equal_calls_have_equal_results(self):
        first = [plain(call(*[value for _, value, _, _ in arguments])) for call, arguments in CALLS]
        for number in range(2):
            again = []
            for call, arguments in CALLS[::-1]:
                again.append(plain(call(*[copy.deepcopy(value) for _, value, _, _ in arguments])))
            self.assertEqual(first, again[::-1], number)

    def test_results_are_made_of_the_kinds_that_are_named(self):
        for call, arguments in CALLS:
            rest = [call(*[value for _, value, _, _ in arguments])]
            while rest:
                item = rest.pop()
                if type(item) in (list, tuple):
                    rest.extend(item)
                elif not type(item).__module__.startswith("skipcounts."):
                    self.assertIn(type(item), (type(None), bool, str, int), call)


class Kinds(support.TestCase):
    def test_a_boolean_is_no_number(self):
        from skipcounts.readings import counts, is_reading
        from skipcounts.sums import from_worths
        from skipcounts.errors import InvalidList, InvalidNumber
        self.refuses(InvalidNumber, True, counts, "ab", True, "ab")
        self.assertFalse(is_reading("ab", "ab", (False, True)))
        given = [1, True, 0]
        self.refuses(InvalidList, given, from_worths, "ab", 1, given)
        given = [("a", True)]
        self.refuses(InvalidList, given, Sum, given)

    def test_a_tuple_is_no_list_and_a_list_no_tuple(self):
        from skipcounts.readings import is_reading
        from skipcounts.errors import InvalidList
        given = (("a", 1),)
        self.refuses(InvalidList, given, Sum, given)
        given = [["a", 1]]
        self.refuses(InvalidList, given, Sum, given)
        self.assertFalse(is_reading("a", "a", [0]))

    def test_limits_of_the_caller_do_not_make_a_value_something_else(self):
        from skipcounts.readings import count
        from skipcounts.texts import is_text
        self.assertIs(is_text("a" * 301), True)
        self.assertEqual(count("a" * 13, "a" * 14), 14)
        self.assertEqual(count("a", "a" * 301), 301)
        self.assertEqual(Sum([("a" * 13, 1)]).degree(), 13)
