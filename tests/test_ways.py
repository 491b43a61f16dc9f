"""Points 3 and 4: the fewest steps, what shows them, and how far a ring is."""

import unittest

from roundsteps.answers import Come, Never
from roundsteps.ways import far, nearest, told
from tests.helpers import EDGES, drawn_rings, fewest, small_rings


class Told(unittest.TestCase):
    def one_of_two(self, ring, steps):
        """At all pairs of places: a Come just where a way leads, as short as can be, or a Never; it shows itself."""
        for one in range(ring):
            near = fewest(ring, steps, one)
            for other in range(ring):
                answer = told(ring, steps, one, other)
                self.assertIs(answer.__class__, Come if other in near else Never)
                self.assertIs(answer.shows(ring, steps, one, other), True)
                if other in near:
                    self.a_way(ring, steps, one, other, near[other], answer)
                else:
                    self.a_part(ring, steps, one, other, answer.part)

    def a_way(self, ring, steps, one, other, many, come):
        self.assertEqual(len(come.way), many)
        self.assertEqual((one + sum(steps[count] for count in come.way)) % ring, other)
        self.assertGreaterEqual(min(come.way, default=0), 0)
        self.assertEqual(len(come.heights), ring)
        self.assertEqual((come.heights[one], come.heights[other]), (0, many))

    def a_part(self, ring, steps, one, other, part):
        self.assertGreaterEqual(part, 2)
        self.assertEqual([number % part for number in [ring] + steps], [0] * (1 + len(steps)))
        self.assertNotEqual((other - one) % part, 0)

    def test_every_ring_to_12_with_small_steps(self):
        for ring, steps in small_rings():
            self.one_of_two(ring, steps)

    def test_drawn_ones_to_60(self):
        for ring, steps in drawn_rings(40):
            with self.subTest((ring, steps)):
                self.one_of_two(ring, steps)

    def test_edges(self):
        for ring, steps in EDGES:
            with self.subTest((ring, steps)):
                self.one_of_two(ring, steps)

    def test_alike_places_have_the_empty_way(self):
        for ring, steps in EDGES:
            for place in range(ring):
                self.assertEqual(told(ring, steps, place, place).way, [])

    def test_where_but_one_way_is_as_short(self):
        self.assertEqual(told(5, [2, 3], 0, 1).way, [1, 1])
        self.assertEqual(told(5, [2, 3], 3, 2).way, [0, 0])
        self.assertEqual(told(60, [1], 7, 6).way, [0] * 59)
        self.assertEqual(told(60, [1, 59], 7, 6).way, [1])
        self.assertEqual(told(1, [60], 0, 0).way, [])

    def test_places_to_which_no_way_leads_have_heights(self):
        come = told(6, [2], 1, 3)
        self.assertEqual(come.way, [0])
        self.assertEqual([height.__class__ for height in come.heights], [int] * 6)

    def test_told_lists_changed_afterwards_change_nothing(self):
        for ring, steps, one, other in ((7, [2, 3], 1, 0), (6, [2], 1, 3), (60, [1, 7], 5, 4), (1, [4], 0, 0)):
            first = told(ring, steps, one, other)
            way, heights = list(first.way), list(first.heights)
            first.way.append(0)
            first.heights.reverse()
            first.heights.append(9)
            again = told(ring, steps, one, other)
            self.assertEqual((again.way, again.heights), (way, heights))
            again.way.clear()
            again.heights.clear()
            self.assertEqual((first.way, first.heights), (way + [0], heights[::-1] + [9]))

    def test_a_part_changed_afterwards_changes_nothing(self):
        first = told(6, [2, 4], 0, 1)
        part, first.part = first.part, 99
        self.assertEqual(told(6, [2, 4], 0, 1).part, part)


class Nearest(unittest.TestCase):
    def against_a_search(self, ring, steps):
        before = nearest(ring, steps, 0)
        for place in range(ring):
            near = fewest(ring, steps, place)
            row = nearest(ring, steps, place)
            self.assertEqual(row, [near.get(other) for other in range(ring)])
            # The same from whichever place.
            self.assertEqual(row[place:] + row[:place], before)

    def test_small_ones(self):
        for ring, steps in small_rings():
            self.against_a_search(ring, steps)

    def test_drawn_ones_and_edges(self):
        for ring, steps in list(drawn_rings(40)) + list(EDGES):
            with self.subTest((ring, steps)):
                self.against_a_search(ring, steps)

    def test_none_where_no_way_leads(self):
        self.assertEqual(nearest(6, [2], 1), [None, 0, None, 1, None, 2])
        self.assertEqual(nearest(5, [5, 10], 3), [None, None, None, 0, None])
        self.assertEqual(nearest(1, [5, 10], 0), [0])
        self.assertEqual(nearest(5, [2, 3], 0), [0, 2, 1, 1, 2])

    def test_a_new_list_each_time(self):
        first = nearest(5, [2, 3], 0)
        first[0] = 9
        first.append(9)
        self.assertEqual(nearest(5, [2, 3], 0), [0, 2, 1, 1, 2])
        self.assertIsNot(nearest(5, [2, 3], 0), nearest(5, [2, 3], 0))


class Far(unittest.TestCase):
    def against_a_search(self, ring, steps):
        for place in (0, ring // 2, ring - 1):
            near = fewest(ring, steps, place)
            self.assertEqual(far(ring, steps), max(near.values()) if len(near) == ring else None)

    def test_small_ones(self):
        for ring, steps in small_rings():
            self.against_a_search(ring, steps)

    def test_drawn_ones_and_edges(self):
        for ring, steps in list(drawn_rings(200)) + list(EDGES):
            with self.subTest((ring, steps)):
                self.against_a_search(ring, steps)

    def test_told_ones(self):
        self.assertEqual(far(60, [1]), 59)
        self.assertEqual(far(60, [1, 2, 3, 4, 5, 6]), 10)
        self.assertIs(far(60, [2, 60]), None)
        self.assertIs(far(2, [2]), None)
        # 0, not None: the one place is come to by no step at all.
        self.assertEqual(far(1, [2]), 0)
        self.assertIsNot(far(1, [2]), None)


if __name__ == "__main__":
    unittest.main()
