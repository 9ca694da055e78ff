"""The helpers that tell which rows others make: by fractions, and by rests of whole numbers."""

import itertools

from skipcounts.spans import RestSpan, Span, shares_of
from tests import support

GREAT = 2 ** 61 - 1


class Spans(support.TestCase):
    def test_by_fractions(self):
        chance = support.chance(7001)
        for _ in range(300):
            width = chance.randint(0, 4)
            span, rows = Span(width), []
            for _ in range(7):
                row = [chance.choice([0, 0, 1, -1, 2, 3, GREAT, -2 * GREAT, GREAT * GREAT]) for _ in range(width)]
                made = support.is_made(rows, row)
                self.assertIs(span.has(row), made)
                self.assertIs(span.puts(row), not made)
                self.assertIs(span.has(row), True)
                if not made:
                    rows.append(row)
                self.assertEqual(span.size(), len(rows))

    def test_shares(self):
        chance = support.chance(7002)
        for _ in range(200):
            width = chance.randint(1, 4)
            rows = []
            for _ in range(width):
                row = [chance.randint(-4, 4) for _ in range(width)]
                if not support.is_made(rows, row):
                    rows.append(row)
            times = [[chance.randint(-5, 5) for _ in rows] for _ in range(3)]
            targets = [[sum(many * row[at] for many, row in zip(own, rows)) for at in range(width)] for own in times]
            found, by = shares_of(rows, targets)
            self.assertEqual(found, [[by * many for many in own] for own in times])
        self.assertEqual(shares_of([], [[0, 0]]), ([[]], 1))


class RestSpans(support.TestCase):
    def all_made(self, by, width, rows):
        """All rests that rows make, each taken any number of times."""
        found = {(0,) * width}
        for row in rows:
            found = {tuple((have + many * own) % by for have, own in zip(made, row))
                     for made in found for many in range(by)}
        return found

    def test_by_rests(self):
        chance = support.chance(7003)
        for by, width in itertools.product([2, 3, 4, 6, 8, 9, 12], [1, 2, 3]):
            for _ in range(6):
                span, rows = RestSpan(by, width), []
                for _ in range(6):
                    row = [chance.choice([0, chance.randrange(by), by // 2]) for _ in range(width)]
                    made = tuple(row) in self.all_made(by, width, rows)
                    self.assertIs(span.puts(row), not made, (by, rows, row))
                    self.assertIs(span.puts(row), False)
                    rows.append(row)
