"""Points 8 and 9: which added step brings all nearest, twos, and steps told back from them."""

import itertools
import random
import unittest

from roundsteps.changes import added, told_back, twos
from roundsteps.errors import BadPlaces, BadRing, BadSteps
from roundsteps.ways import far
from tests.helpers import EDGES, drawn_rings, fewest


def how_far(ring, steps):
    """By how few steps the farthest place is come to, None if one is come to by none."""
    near = fewest(ring, steps, 0)
    return max(near.values()) if len(near) == ring else None


def fars_by_added(ring, steps):
    """How far the ring is with each added step, where it is not None."""
    fars = {step: how_far(ring, sorted(steps + [step])) for step in range(1, 61) if step not in steps}
    return {step: many for step, many in fars.items() if many is not None}


def to_add_to():
    """Every ring to 12 with drawn steps, one to five; some of them alike on the ring, some with a common part."""
    draw = random.Random(8)
    for ring in range(1, 13):
        for many in (1, 2, 3, 4, 5):
            for greatest in (20, 60):
                for part in (1, 2, 3):
                    yield ring, sorted(draw.sample(range(part, greatest + 1, part), many))


def at_most_five(told):
    """The same rings, with no more than the first five steps."""
    return [(ring, steps[:5]) for ring, steps in told]


class Added(unittest.TestCase):
    def against_a_search(self, ring, steps):
        answer = added(ring, steps)
        self.assertIs(answer.__class__, tuple)
        self.assertEqual([number.__class__ for number in answer], [int, int])
        step, many = answer
        fars = fars_by_added(ring, steps)
        self.assertEqual(many, min(fars.values()))
        self.assertEqual(step, min(step for step in fars if fars[step] == many))
        self.assertEqual(far(ring, sorted(steps + [step])), many)

    def test_every_ring_to_12(self):
        for ring, steps in to_add_to():
            with self.subTest((ring, steps)):
                self.against_a_search(ring, steps)

    def test_every_ring_to_12_with_one_or_two_small_steps(self):
        for ring in range(1, 13):
            for many in (1, 2):
                for steps in itertools.combinations((1, 2, 3, 4, 6, 12, 13, 60), many):
                    self.against_a_search(ring, list(steps))

    def test_drawn_ones_to_60_and_edges(self):
        for ring, steps in at_most_five(list(drawn_rings(60)) + list(EDGES)):
            with self.subTest((ring, steps)):
                self.against_a_search(ring, steps)

    def test_the_ring_of_one_place(self):
        # All are as far, so it is the least that is not among them.
        self.assertEqual(added(1, [2]), (1, 0))
        self.assertEqual(added(1, [1]), (2, 0))
        self.assertEqual(added(1, [1, 2, 3, 5, 6]), (4, 0))
        self.assertEqual(added(1, [1, 2, 3, 4, 5]), (6, 0))
        self.assertEqual(added(1, [56, 57, 58, 59, 60]), (1, 0))

    def test_the_ring_of_two_places(self):
        self.assertEqual(added(2, [1]), (2, 1))
        self.assertEqual(added(2, [2]), (1, 1))
        self.assertEqual(added(2, [1, 2, 3, 4]), (5, 1))

    def test_come_to_everywhere_already(self):
        self.assertEqual(far(60, [1]), 59)
        self.assertEqual(added(60, [1]), (14, 12))
        self.against_a_search(60, [1])
        # None makes it less far, and yet one is told: the least.
        self.assertEqual((far(5, [1, 2, 3, 4]), added(5, [1, 2, 3, 4])), (1, (5, 1)))
        self.assertEqual((far(6, [1, 2, 3, 4, 5]), added(6, [1, 2, 3, 4, 5])), (1, (6, 1)))

    def test_not_come_to_everywhere_before(self):
        for ring, steps in ((6, [2, 4]), (6, [6]), (60, [12, 24]), (60, [60]), (12, [2, 4, 6, 8, 10]), (2, [60])):
            self.assertIs(far(ring, steps), None)
            self.against_a_search(ring, steps)
        self.assertEqual(added(6, [6]), (1, 5))
        self.assertEqual(added(6, [2, 4]), (1, 2))

    def test_the_least_of_several_not_one_among_them(self):
        # Alike on the ring: 6, 11 .. would do as well as 1, and 7, 12 .. as 2.
        self.assertEqual(added(5, [5]), (1, 4))
        self.assertEqual(added(3, [1]), (2, 1))
        self.assertEqual(added(3, [4]), (2, 1))
        self.assertEqual(added(4, [1, 2]), (3, 1))
        self.assertEqual(added(4, [3, 5, 6]), (1, 1))

    def test_five_steps_and_six(self):
        for steps in ([1, 2, 3, 4, 5], [2, 4, 6, 8, 10], [56, 57, 58, 59, 60]):
            for ring in (1, 7, 60):
                self.against_a_search(ring, steps)
        for steps in ([1, 2, 3, 4, 5, 6], [55, 56, 57, 58, 59, 60], [1, 2, 3, 4, 5, 6, 7]):
            for ring in (1, 7, 60):
                with self.assertRaises(BadSteps):
                    added(ring, steps)
            with self.assertRaises(BadRing):
                added(61, steps)

    def test_great_steps_are_added_too(self):
        for ring, steps, step in ((60, [4, 8, 43], 59), (60, [5, 16, 43], 58), (59, [43, 49, 54], 57)):
            self.assertEqual(added(ring, steps), (step, 5))
            self.against_a_search(ring, steps)


class Twos(unittest.TestCase):
    def against_all_pairs(self, ring, steps):
        places = {(one + other) % ring for one in steps for other in steps}
        told = twos(ring, steps)
        self.assertIs(told.__class__, list)
        self.assertEqual(told, sorted(places))

    def test_every_ring_to_8_with_each_list_of_small_steps(self):
        for ring in range(1, 9):
            for many in range(1, 7):
                for steps in itertools.combinations(range(1, 10), many):
                    self.against_all_pairs(ring, list(steps))

    def test_drawn_ones_and_edges(self):
        for ring, steps in list(drawn_rings(300)) + list(EDGES):
            with self.subTest((ring, steps)):
                self.against_all_pairs(ring, steps)

    def test_one_step_twice(self):
        self.assertEqual(twos(10, [3]), [6])
        self.assertEqual(twos(5, [3]), [1])
        self.assertEqual(twos(10, [1, 3]), [2, 4, 6])
        self.assertEqual(twos(60, [60]), [0])
        self.assertEqual(twos(60, [30, 59]), [0, 29, 58])

    def test_the_ring_of_one_place(self):
        for steps in ([1], [60], [1, 2], [1, 2, 3, 4, 5, 6]):
            self.assertEqual(twos(1, steps), [0])

    def test_greater_than_the_ring_and_alike_on_it(self):
        self.assertEqual(twos(5, [3, 8, 13]), [1])
        self.assertEqual(twos(7, [58, 59]), [4, 5, 6])
        self.assertEqual(twos(2, [1, 3, 5]), [0])
        self.assertEqual(twos(4, [1, 60]), [0, 1, 2])

    def test_a_new_list_each_time(self):
        first = twos(10, [1, 3])
        first.append(9)
        first[0] = 7
        self.assertEqual(twos(10, [1, 3]), [2, 4, 6])
        self.assertIsNot(twos(10, [1, 3]), twos(10, [1, 3]))


def steps_in_order(ring):
    """All lists of one to six steps, none greater than the ring's count, by their first unlike members."""
    lists = [list(steps) for many in range(1, 7) for steps in itertools.combinations(range(1, ring + 1), many)]
    return sorted(lists)


def lists_of_places(ring):
    """Every rising list of the ring's places, the empty one, too."""
    for many in range(ring + 1):
        for places in itertools.combinations(range(ring), many):
            yield list(places)


class ToldBack(unittest.TestCase):
    def first_of(self, ring):
        """For each twos that some steps have, the first of these."""
        first = {}
        for steps in steps_in_order(ring):
            places = tuple(sorted({(one + other) % ring for one in steps for other in steps}))
            first.setdefault(places, steps)
        return first

    def test_every_list_of_places_of_every_ring_to_8(self):
        for ring in range(1, 9):
            first = self.first_of(ring)
            for places in lists_of_places(ring):
                with self.subTest((ring, places)):
                    steps = told_back(ring, places)
                    self.assertEqual(steps, first.get(tuple(places)))
                    if steps is not None:
                        self.assertIs(steps.__class__, list)
                        self.assertEqual(twos(ring, steps), places)

    def test_none_at_all(self):
        for ring in range(1, 9):
            self.assertIs(told_back(ring, []), None)

    def test_told_ones(self):
        self.assertEqual(told_back(1, [0]), [1])
        self.assertEqual(told_back(2, [0]), [1])
        self.assertEqual(told_back(2, [0, 1]), [1, 2])
        self.assertIs(told_back(2, [1]), None)
        self.assertEqual(told_back(8, [2]), [1])
        self.assertEqual(told_back(8, [2, 6]), [1, 5])
        self.assertIs(told_back(8, [1]), None)
        # One ahead of those that begin with it, and by the first unlike members: not the shortest first.
        self.assertEqual(told_back(4, [0, 2]), [1, 3])
        self.assertEqual(told_back(3, [0, 1, 2]), [1, 2])
        self.assertEqual(told_back(8, [0, 1, 2, 3, 4, 5, 6, 7]), [1, 2, 3, 4, 5])

    def test_the_ring_s_count_itself_is_a_step(self):
        self.assertEqual(told_back(5, [0]), [5])
        self.assertEqual(told_back(7, [0]), [7])
        self.assertEqual(told_back(8, [0]), [4])

    def test_not_the_shortest_but_the_first_in_order(self):
        found = []
        for ring in range(1, 9):
            shortest = {}
            for steps in sorted(steps_in_order(ring), key=len):
                shortest.setdefault(tuple(twos(ring, steps)), steps)
            for places, steps in shortest.items():
                if told_back(ring, list(places)) != steps:
                    found.append((ring, places))
        self.assertNotEqual(found, [])

    def test_a_new_list_each_time(self):
        first = told_back(3, [0, 1, 2])
        first.append(3)
        first[0] = 9
        self.assertEqual(told_back(3, [0, 1, 2]), [1, 2])
        places = [0, 1, 2]
        self.assertIsNot(told_back(3, places), places)

    def test_places_changed_in_place_are_told_anew(self):
        places = [0]
        self.assertEqual(told_back(2, places), [1])
        places.append(1)
        self.assertEqual(told_back(2, places), [1, 2])
        del places[0]
        self.assertIs(told_back(2, places), None)
        places[:] = [1, 0]
        with self.assertRaises(BadPlaces):
            told_back(2, places)
        self.assertEqual(places, [1, 0])
        places.clear()
        self.assertIs(told_back(2, places), None)

    def test_rings_beyond_8(self):
        for ring in range(9, 63):
            for places in ([0], [], [0, 1], [ring], None):
                with self.assertRaises(BadRing):
                    told_back(ring, places)
        for ring in (0, -1, True, None, "8", [8]):
            with self.assertRaises(BadRing):
                told_back(ring, [0])

    def test_places_that_are_none(self):
        wrong = (
            [1, 0], [0, 0], [0, 1, 1], [0, 2, 1], [-1], [-1, 0], [8], [0, 8], [0, 9], [True], [False], [False, 1],
            [0, True], [None], [0, None], ["0"], [0, "1"], "0", "01", "", (), (0,), (0, 1), None, 0, 1, True,
            [[0]], [(0,)], {0}, {0: 1}, range(2), b"01",
        )
        for at, places in enumerate(wrong):
            with self.subTest(at), self.assertRaises(BadPlaces):
                told_back(8, places)
        for ring in range(1, 9):
            for places in ([ring], [0, ring], [-1], list(range(ring + 1))):
                with self.assertRaises(BadPlaces):
                    told_back(ring, places)


if __name__ == "__main__":
    unittest.main()
