"""Points 1 and 2: rings, steps, places, where a step leads, and the refusals."""

import copy
import math
import unittest

from roundsteps import rings
from roundsteps.errors import BadPlace, BadRing, BadSteps
from tests.helpers import HUGE, NEITHER


class Numbers(unittest.TestCase):
    def test_whole_numbers_are_numbers(self):
        for value in (0, 1, -1, 60, HUGE, -HUGE):
            self.assertIs(rings.is_number(value), True)

    def test_all_else_is_none(self):
        for at, value in enumerate(NEITHER + ([1],)):
            with self.subTest(at):
                self.assertIs(rings.is_number(value), False)


class Rings(unittest.TestCase):
    def test_1_to_60_places(self):
        for ring in range(1, 61):
            rings.check_ring(ring)

    def test_other_counts_are_refused(self):
        for ring in (0, 61, -1, -60, 62, 120, HUGE, -HUGE):
            with self.assertRaises(BadRing):
                rings.check_ring(ring)

    def test_other_kinds_are_refused(self):
        for at, ring in enumerate(NEITHER + ([1], [5])):
            with self.subTest(at), self.assertRaises(BadRing):
                rings.check_ring(ring)


class Steps(unittest.TestCase):
    def test_one_to_six(self):
        for many in range(1, 7):
            rings.check_steps(list(range(1, many + 1)))

    def test_none_and_seven_are_refused(self):
        for many in (0, 7, 8, 60):
            with self.subTest(many), self.assertRaises(BadSteps):
                rings.check_steps(list(range(1, many + 1)))

    def test_1_to_60(self):
        for step in range(1, 61):
            rings.check_steps([step])
        rings.check_steps([1, 60])

    def test_other_numbers_are_refused(self):
        for step in (0, 61, -1, 62, HUGE, -HUGE):
            for steps in ([step], sorted([5, step])):
                with self.assertRaises(BadSteps):
                    rings.check_steps(steps)

    def test_alike_or_not_rising_are_refused(self):
        for steps in ([1, 1], [2, 3, 3], [2, 2, 3], [2, 1], [1, 3, 2], [3, 1, 2], [60, 1], [1, 2, 1]):
            with self.subTest(steps), self.assertRaises(BadSteps):
                rings.check_steps(steps)

    def test_other_kinds_are_refused(self):
        for at, steps in enumerate(NEITHER + (0, 1, 5, HUGE, "12", b"\x01\x02", range(1, 3), {1, 2}, {1: 1, 2: 2})):
            with self.subTest(at), self.assertRaises(BadSteps):
                rings.check_steps(steps)

    def test_other_kinds_among_them_are_refused(self):
        for at, value in enumerate(NEITHER + ([1],)):
            for steps in ([value], [value, 5], [1, value], [1, value, 5], [1, 5, value]):
                with self.subTest(at), self.assertRaises(BadSteps):
                    rings.check_steps(steps)

    def test_greater_than_the_ring_and_alike_on_it(self):
        rings.check_told(1, [1, 2, 60], [0])
        rings.check_told(5, [3, 8, 13], [4])
        rings.check_told(10, [10, 20], [9])


class Places(unittest.TestCase):
    def test_each_place_of_the_ring(self):
        for ring in (1, 2, 7, 60):
            for place in range(ring):
                rings.check_place(ring, place)

    def test_others_are_refused(self):
        for ring in (1, 2, 7, 60):
            for place in (-1, ring, ring + 1, -ring, HUGE, -HUGE):
                with self.subTest((ring, place < 0)), self.assertRaises(BadPlace):
                    rings.check_place(ring, place)

    def test_other_kinds_are_refused(self):
        for at, place in enumerate(NEITHER + ([0],)):
            with self.subTest(at), self.assertRaises(BadPlace):
                rings.check_place(7, place)


class Order(unittest.TestCase):
    """Of two wrong ones, the refusal that is told first."""

    def refusal(self, ring, steps, places):
        try:
            rings.check_told(ring, steps, places)
        except (BadRing, BadSteps, BadPlace) as refused:
            return refused.__class__
        return None

    def test_the_ring_then_the_steps_then_the_places(self):
        self.assertIs(self.refusal(5, [1], [0, 4]), None)
        self.assertIs(self.refusal(5, [1], []), None)
        self.assertIs(self.refusal(61, [], [0]), BadRing)
        self.assertIs(self.refusal(0, [1], [9]), BadRing)
        self.assertIs(self.refusal(True, None, [None]), BadRing)
        self.assertIs(self.refusal("5", (1,), ["0"]), BadRing)
        self.assertIs(self.refusal(5, [], [5]), BadSteps)
        self.assertIs(self.refusal(5, (1, 2), [0, -1]), BadSteps)

    def test_either_place(self):
        self.assertIs(self.refusal(5, [1], [5, 0]), BadPlace)
        self.assertIs(self.refusal(5, [1], [0, 5]), BadPlace)
        self.assertIs(self.refusal(5, [1], [-1, 5]), BadPlace)

    def test_nothing_handed_in_is_changed(self):
        for handed in ((5, [1, 2], [0, 9]), (5, [2, 1], [0]), (0, [1, 1], [0]), (5, [1, 2], [3])):
            before = copy.deepcopy(handed)
            self.refusal(*handed)
            self.assertEqual(handed, before)


class Counts(unittest.TestCase):
    """A step's count is where it stands in the list, from 0 on."""

    def test_counts_of_steps(self):
        for steps in ([5], [2, 9], [1, 2, 3, 4, 5, 60]):
            for value in range(-8, 70):
                self.assertIs(rings.is_count(steps, value), value in range(len(steps)))

    def test_other_kinds_are_none(self):
        for at, value in enumerate(NEITHER):
            with self.subTest(at):
                self.assertIs(rings.is_count([1, 2], value), False)


class Leading(unittest.TestCase):
    def test_so_many_farther_on_around(self):
        for ring in (1, 2, 5, 59, 60):
            for place in range(ring):
                for step in range(1, 61):
                    at = place
                    for _ in range(step):
                        at = 0 if at == ring - 1 else at + 1
                    self.assertEqual(rings.led_to(ring, place, step), at)

    def test_again_and_again_where_it_is_greater(self):
        self.assertEqual(rings.led_to(7, 3, 60), 0)
        self.assertEqual(rings.led_to(1, 0, 60), 0)
        self.assertEqual(rings.led_to(5, 4, 5), 4)
        self.assertEqual(rings.led_to(5, 1, 3), rings.led_to(5, 1, 13))

    def test_ways_are_gone_in_turn_by_counts(self):
        self.assertEqual(rings.end_of(10, [2, 5], 3, []), 3)
        self.assertEqual(rings.end_of(10, [2, 5], 3, [0]), 5)
        self.assertEqual(rings.end_of(10, [2, 5], 3, [1]), 8)
        self.assertEqual(rings.end_of(10, [2, 5], 3, [1, 0, 1]), 5)
        self.assertEqual(rings.end_of(10, [2, 25], 9, [1, 1, 0]), 1)

    def test_ways_stay_as_they_were(self):
        way, steps = [1, 0], [2, 5]
        rings.end_of(10, steps, 0, way)
        self.assertEqual((way, steps), ([1, 0], [2, 5]))


class Come(unittest.TestCase):
    def test_by_just_so_many(self):
        for ring in (1, 2, 6, 7, 12):
            for steps in ([1], [2], [3, 9], [2, 4], [1, 5, 13]):
                for place in range(ring):
                    come = {place}
                    for many in range(ring + 2):
                        told = rings.come_by(ring, steps, place, many)
                        self.assertEqual(told, [at in come for at in range(ring)])
                        come = {(at + step) % ring for at in come for step in steps}


class Parts(unittest.TestCase):
    def test_how_much_farther_on(self):
        for ring in (1, 2, 7, 60):
            for one in range(ring):
                for more in range(ring):
                    self.assertEqual(rings.farther_on(ring, one, (one + more) % ring), more)

    def test_the_greatest_that_goes_into_all(self):
        for numbers in ([1], [60], [0, 12], [12, 0, 0], [12, 18], [18, 12], [7, 5], [60, 24, 36], [6, 10, 15], [9, 9]):
            part = max(part for part in range(1, 61) if all(number % part == 0 for number in numbers))
            self.assertEqual(rings.common_part(numbers), part)
        for one in range(1, 61):
            for other in range(61):
                self.assertEqual(rings.common_part([one, other]), math.gcd(one, other))


if __name__ == "__main__":
    unittest.main()
