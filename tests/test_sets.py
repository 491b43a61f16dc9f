"""Points 6 and 7: what is come to by just so many steps, and the first count by which every place is."""

import unittest

from roundsteps.answers import Every, Held
from roundsteps.sets import after, every
from tests.helpers import EDGES, HUGE, come_by, drawn_rings, moved, small_rings

GREAT = (10 ** 30, 10 ** 30 + 1, 10 ** 30 + 59, 7 ** 100, HUGE, HUGE + 7, (1 << 400000) + 12345)


def rows_of(ring, steps, place):
    """The sets of places by 0, 1, 2 .. steps, until one comes again, and where it came first."""
    rows, row = [], {place}
    while row not in rows:
        rows.append(row)
        row = moved(ring, row, steps)
    return rows, rows.index(row)


def row_at(rows, first, many):
    """The set of places by so many steps, where the rows come again from the first one on."""
    return rows[many] if many < len(rows) else rows[first + (many - first) % (len(rows) - first)]


class After(unittest.TestCase):
    def one_by_one(self, ring, steps, place, most):
        come = {place}
        for many in range(most + 1):
            self.assertEqual(after(ring, steps, place, many), sorted(come))
            come = moved(ring, come, steps)

    def test_counts_to_70(self):
        for ring, steps in list(EDGES) + list(drawn_rings(30)):
            for place in {0, ring // 2, ring - 1}:
                with self.subTest((ring, steps, place)):
                    self.one_by_one(ring, steps, place, 70)

    def test_every_ring_to_12_with_few_steps(self):
        for ring, steps in small_rings():
            for place in {0, ring - 1}:
                self.one_by_one(ring, steps, place, 5)

    def test_great_counts_where_the_rows_come_again(self):
        for ring, steps in list(EDGES) + list(drawn_rings(60)):
            for place in {0, ring - 1}:
                rows, first = rows_of(ring, steps, place)
                for many in GREAT + tuple(range(ring - 2 if ring > 1 else 0, ring + 3)) + (199, 200, 201, 1000):
                    self.assertEqual(after(ring, steps, place, many), sorted(row_at(rows, first, many)))

    def test_told_ones(self):
        self.assertEqual(after(5, [1, 2], 0, 0), [0])
        self.assertEqual(after(5, [1, 2], 0, 3), [0, 1, 3, 4])
        self.assertEqual(after(5, [1, 2], 0, 4), [0, 1, 2, 3, 4])
        self.assertEqual(after(6, [2, 4], 1, 1), [3, 5])
        self.assertEqual(after(7, [1], 0, 10 ** 30), [10 ** 30 % 7])
        self.assertEqual(after(1, [60], 0, HUGE), [0])
        # By an odd count the odd ones, by an even one the even ones.
        self.assertEqual(after(6, [1, 3], 0, 10 ** 30), [0, 2, 4])
        self.assertEqual(after(6, [1, 3], 0, 10 ** 30 + 1), [1, 3, 5])

    def test_a_new_list_each_time(self):
        first = after(5, [1, 2], 0, 1)
        first.append(7)
        self.assertEqual(after(5, [1, 2], 0, 1), [1, 2])


class EveryOrHeld(unittest.TestCase):
    def one_of_two(self, ring, steps):
        rows, _ = rows_of(ring, steps, 0)
        full = [many for many, row in enumerate(rows) if len(row) == ring]
        answer = every(ring, steps)
        self.assertIs(answer.shows(ring, steps), True)
        self.assertIs(answer.__class__, Every if full else Held)
        if full:
            self.an_every(ring, steps, full[0], answer)
        else:
            self.a_held(ring, steps, answer.part)

    def an_every(self, ring, steps, many, answer):
        self.assertEqual(answer.many, many)
        if many == 0:
            self.assertIs(answer.late, None)
        else:
            self.assertIn(answer.late, set(range(ring)) - come_by(ring, steps, many - 1))

    def a_held(self, ring, steps, part):
        self.assertGreaterEqual(part, 2)
        self.assertEqual(ring % part, 0)
        for one in steps:
            for other in steps:
                self.assertEqual((one - other) % part, 0)

    def test_every_ring_to_12_with_small_steps(self):
        for ring, steps in small_rings():
            self.one_of_two(ring, steps)

    def test_drawn_ones_to_60_and_edges(self):
        for ring, steps in list(drawn_rings(300)) + list(EDGES):
            with self.subTest((ring, steps)):
                self.one_of_two(ring, steps)

    def test_the_ring_of_one_place(self):
        for steps in ([1], [60], [1, 2, 3, 4, 5, 6], [2, 4]):
            answer = every(1, steps)
            self.assertIsInstance(answer, Every)
            self.assertEqual(answer.many, 0)
            self.assertIs(answer.late, None)

    def test_one_step_alone(self):
        for ring in range(2, 61):
            for step in (1, 2, 7, ring, 60):
                answer = every(ring, [step])
                self.assertIsInstance(answer, Held)
                self.assertIs(answer.shows(ring, [step]), True)

    def test_steps_whose_differences_a_number_goes_into(self):
        # Each place is come to by some count, but never all by one.
        for ring, steps in ((6, [1, 3]), (6, [1, 4]), (60, [7, 12, 17]), (60, [1, 31]), (10, [3, 5, 9, 59])):
            self.one_of_two(ring, steps)
            self.assertIsInstance(every(ring, steps), Held)
        # What goes into the differences does not go into the ring's count.
        for ring, steps in ((5, [1, 3]), (7, [3, 6, 9]), (59, [1, 59])):
            self.one_of_two(ring, steps)
            self.assertIsInstance(every(ring, steps), Every)
        # What goes into two differences does not go into the third one.
        self.assertIsInstance(every(6, [1, 3, 4]), Every)
        self.assertIsInstance(every(6, [1, 2, 4]), Every)

    def test_told_ones(self):
        answer = every(5, [1, 2])
        self.assertEqual((answer.many, answer.late), (4, 2))
        self.assertEqual(every(60, [1, 2]).many, 59)
        self.assertEqual(every(2, [1, 2]).many, 1)

    def test_by_one_more_too(self):
        for ring, steps in ((5, [1, 2]), (60, [1, 2]), (12, [1, 5, 9, 13, 20, 60])):
            many = every(ring, steps).many
            for more in (0, 1, 2, 10 ** 30):
                self.assertEqual(after(ring, steps, 0, many + more), list(range(ring)))
            self.assertNotEqual(after(ring, steps, 0, many - 1), list(range(ring)))

    def test_a_field_changed_afterwards_changes_nothing(self):
        first = every(5, [1, 2])
        first.many, first.late = 9, 9
        self.assertEqual((every(5, [1, 2]).many, every(5, [1, 2]).late), (4, 2))


if __name__ == "__main__":
    unittest.main()
