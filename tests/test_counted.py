"""Point 5: ways of just so many steps, counted and numbered."""

import itertools
import unittest

from roundsteps.counted import how_many, number_of, way_by
from roundsteps.errors import BadNumber
from tests.helpers import EDGES, HUGE, NEITHER, drawn_rings

FEW = (
    (1, [1], 5), (1, [2, 60], 5), (2, [1, 2], 5), (2, [2, 4], 5), (3, [1, 2], 6), (5, [3, 8, 13], 4), (5, [5, 10], 4),
    (6, [2, 4], 5), (7, [1, 3, 60], 4), (9, [4], 6), (12, [1, 5, 9, 13, 20, 60], 3), (60, [7, 29, 59], 4),
)


def ways_by_end(ring, steps, many):
    """All ways of just so many steps in order, by how much farther on they lead."""
    found = {place: [] for place in range(ring)}
    # `product` goes through them in the order of lists.
    for way in itertools.product(range(len(steps)), repeat=many):
        found[sum(steps[count] for count in way) % ring].append(list(way))
    return found


def by_a_great_power(ring, steps, many):
    """How many ways of just so many steps lead how much farther on, read off one great number.

    Each sum of steps has its own 65 bytes of the number, enough for 6 ** 200.
    """
    power = sum(1 << (65 * 8 * step) for step in steps) ** many
    most = max(steps) * many
    data = power.to_bytes(65 * (most + 1), "little")
    told = [0] * ring
    for at in range(most + 1):
        told[at % ring] += int.from_bytes(data[65 * at:65 * at + 65], "little")
    return told


def digits(number, base, many):
    """The digits of a number, the highest one first."""
    told = []
    for _ in range(many):
        number, digit = divmod(number, base)
        told.append(digit)
    return told[::-1]


class HowMany(unittest.TestCase):
    def test_against_all_ways_one_by_one(self):
        for ring, steps, most in FEW:
            for many in range(most + 1):
                found = ways_by_end(ring, steps, many)
                for one, other in itertools.product(range(ring), repeat=2):
                    self.assertEqual(how_many(ring, steps, one, other, many), len(found[(other - one) % ring]))

    def test_against_a_table_for_many(self):
        for ring, steps in list(drawn_rings(6)) + [(60, [1, 2, 3, 4, 5, 6]), (1, [1, 2, 3, 4, 5, 6])]:
            for many in (7, 70, 200):
                found = by_a_great_power(ring, steps, many)
                for one, more in ((0, 0), (ring - 1, 1 % ring), (ring // 3, ring // 2), (ring // 2, ring - 1)):
                    self.assertEqual(how_many(ring, steps, one, (one + more) % ring, many), found[more])

    def test_no_steps(self):
        for ring, steps in EDGES:
            for one, other in ((0, 0), (0, ring - 1), (ring - 1, ring - 1), (ring - 1, 0)):
                self.assertEqual(how_many(ring, steps, one, other, 0), 1 if one == other else 0)

    def test_200_steps(self):
        self.assertEqual(how_many(1, [1, 2, 3, 4, 5, 6], 0, 0, 200), 6 ** 200)
        self.assertEqual(how_many(2, [1, 2], 0, 0, 200), 2 ** 199)
        self.assertEqual(how_many(2, [1, 2], 0, 1, 200), 2 ** 199)
        self.assertEqual(how_many(60, [7], 3, (3 + 7 * 200) % 60, 200), 1)
        self.assertEqual(how_many(60, [7], 3, (4 + 7 * 200) % 60, 200), 0)

    def test_two_steps_that_lead_to_one_place_are_two(self):
        self.assertEqual(how_many(5, [3, 8, 13], 1, 4, 1), 3)
        self.assertEqual(how_many(5, [3, 8, 13], 1, 2, 2), 9)
        self.assertEqual(how_many(5, [3, 8, 13], 0, 0, 200), 3 ** 200)
        self.assertEqual(how_many(5, [3, 8, 13], 0, 1, 200), 0)


class WayBy(unittest.TestCase):
    def test_all_ways_of_few_steps_in_order(self):
        for ring, steps, most in FEW:
            for many in range(most + 1):
                found = ways_by_end(ring, steps, many)
                for more, ways in found.items():
                    for one in {0, ring // 2, ring - 1}:
                        told = [way_by(ring, steps, one, (one + more) % ring, many, at) for at in range(len(ways))]
                        self.assertEqual(told, ways)
                    self.assertEqual([number_of(ring, steps, way) for way in ways], list(range(len(ways))))

    def test_the_empty_way(self):
        for ring, steps in EDGES:
            self.assertEqual(way_by(ring, steps, ring - 1, ring - 1, 0, 0), [])
            self.assertEqual(number_of(ring, steps, []), 0)

    def there_and_back(self, ring, steps, one, other, many, number):
        """The way of a number, which leads there and has that number."""
        way = way_by(ring, steps, one, other, many, number)
        self.assertEqual(len(way), many)
        self.assertEqual((one + sum(steps[count] for count in way)) % ring, other)
        self.assertGreaterEqual(min(way, default=0), 0)
        self.assertEqual(number_of(ring, steps, way), number)
        return way

    def test_the_first_a_middle_and_the_last_at_200_steps(self):
        for ring, steps, one, other in (
            (60, [1, 2, 3, 4, 5, 60], 59, 3), (7, [1, 3, 60], 2, 2), (1, [5], 0, 0), (12, [5, 60], 0, 1),
            (60, [10, 20, 30], 5, 55), (59, [60], 0, 200 % 59),
        ):
            ways = how_many(ring, steps, one, other, 200)
            self.assertGreater(ways, 0)
            for number in (0, ways // 2, ways - 1):
                way = self.there_and_back(ring, steps, one, other, 200, number)
                if number > 0:
                    self.assertLess(self.there_and_back(ring, steps, one, other, 200, number - 1), way)
                if number < ways - 1:
                    self.assertGreater(self.there_and_back(ring, steps, one, other, 200, number + 1), way)

    def test_where_all_lead_to_one_place_a_way_is_its_number_s_digits(self):
        for ring, steps, one, other in ((1, [1, 2], 0, 0), (5, [3, 8, 13], 4, 4), (10, [10, 20, 30, 40, 50, 60], 7, 7)):
            base = len(steps)
            for many in (1, 2, 199, 200):
                other = (one + steps[0] * many) % ring
                for number in (0, 1, base ** many // 3, base ** many // 2, base ** many - 2, base ** many - 1):
                    way = digits(number, base, many)
                    self.assertEqual(way_by(ring, steps, one, other, many, number), way)
                    self.assertEqual(number_of(ring, steps, way), number)

    def test_the_numbers_of_a_step_more_follow_one_another(self):
        # Of the ways between two places, those that begin with a step of a higher count come behind all others.
        ring, steps, many = 11, [1, 4, 15], 40
        for other in (0, 5):
            behind = [how_many(ring, steps, step % ring, other, many - 1) for step in steps]
            for count, step in enumerate(steps):
                rest = way_by(ring, steps, step % ring, other, many - 1, behind[count] - 1)
                self.assertEqual(number_of(ring, steps, [count] + rest), sum(behind[:count + 1]) - 1)
                self.assertEqual(way_by(ring, steps, 0, other, many, sum(behind[:count + 1]) - 1), [count] + rest)

    def refused(self, number, *asked):
        with self.assertRaises(BadNumber):
            way_by(*asked, number)

    def test_numbers_beyond(self):
        for asked in (
            (5, [2, 3], 0, 1, 2), (5, [2, 3], 0, 0, 0), (7, [1, 3, 60], 2, 2, 200), (1, [1, 2, 3, 4, 5, 6], 0, 0, 200),
            (60, [7], 0, 7, 1), (5, [3, 8, 13], 1, 2, 2),
        ):
            ways = how_many(*asked)
            way_by(*asked, ways - 1)
            for number in (ways, ways + 1, 2 * ways, -1, -ways, HUGE, -HUGE):
                self.refused(number, *asked)

    def test_other_kinds_are_no_numbers(self):
        for at, number in enumerate(NEITHER + ([0], "0", b"0", (0,))):
            with self.subTest(at):
                self.refused(number, 7, [1, 3, 60], 2, 2, 20)

    def test_no_number_where_there_is_no_way(self):
        for asked in ((6, [2, 4], 0, 1, 3), (5, [2, 3], 0, 1, 0), (60, [7], 0, 8, 1), (5, [3, 8], 0, 1, 200)):
            self.assertEqual(how_many(*asked), 0)
            for number in (0, 1, -1, False, None):
                self.refused(number, *asked)

    def test_a_new_list_each_time(self):
        first = way_by(5, [2, 3], 0, 1, 2, 0)
        first.append(0)
        self.assertEqual(way_by(5, [2, 3], 0, 1, 2, 0), [1, 1])


class NumberOf(unittest.TestCase):
    def test_a_way_of_200_counts(self):
        self.assertEqual(number_of(60, [7], [0] * 200), 0)
        self.assertEqual(number_of(1, [1, 2], [0] * 200), 0)
        self.assertEqual(number_of(1, [1, 2], [1] * 200), 2 ** 200 - 1)
        self.assertEqual(number_of(2, [1, 2], [1] * 200), 2 ** 199 - 1)
        self.assertEqual(number_of(2, [1, 2], [0] * 200), 0)

    def test_two_steps_that_lead_to_one_place_are_two(self):
        self.assertEqual([number_of(5, [3, 8, 13], [count]) for count in range(3)], [0, 1, 2])
        self.assertEqual([number_of(5, [3, 4, 5], [count]) for count in range(3)], [0, 0, 0])

    def test_counts_not_numbers_of_steps(self):
        self.assertEqual(way_by(10, [2, 5], 0, 2, 1, 0), [0])
        self.assertEqual(way_by(10, [2, 5], 0, 5, 1, 0), [1])


if __name__ == "__main__":
    unittest.main()
