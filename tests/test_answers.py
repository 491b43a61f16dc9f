"""Points 1, 3, 7 and 11: the answers, and whether they show what they tell."""

import copy
import itertools
import unittest

from roundsteps import answers
from roundsteps.answers import Come, Every, Held, Never, Right, Wrong
from tests.helpers import HUGE, come_by, fewest


def with_far_ones(ring, steps, one):
    """Heights for each place: the fewest steps, and one number for all that are not come to."""
    told = fewest(ring, steps, one)
    return [told.get(place, 0) for place in range(ring)]


def one_way(ring, steps, one, other):
    """A way as short as can be, by trying them all."""
    for many in range(ring):
        for way in itertools.product(range(len(steps)), repeat=many):
            if (one + sum(steps[count] for count in way)) % ring == other:
                return list(way)
    return None


def bent(heights, place, by):
    """These heights with one number bent."""
    return [height + by if at == place else height for at, height in enumerate(heights)]


class ShowsTest(unittest.TestCase):
    def shown(self, answer, *asked):
        """What the answer shows: True or False, the same when asked again, and nothing is changed by asking."""
        before, fields = copy.deepcopy(asked), copy.deepcopy(vars(answer))
        truth = answer.shows(*asked)
        self.assertIn(truth, (True, False))
        self.assertIsInstance(truth, bool)
        self.assertIs(answer.shows(*asked), truth)
        self.assertEqual(asked, before)
        self.assertEqual(vars(answer), fields)
        return truth


class Classes(unittest.TestCase):
    def test_each_stands_straight_under_answer(self):
        for kind in (Come, Never, Every, Held, Right, Wrong):
            self.assertEqual(kind.__bases__, (answers.Answer,))

    def test_each_has_its_own_shows(self):
        for kind in (Come, Never, Every, Held, Right, Wrong):
            self.assertIn("shows", vars(kind))

    def test_fields_stand_under_their_names(self):
        self.assertEqual(vars(Come([1, 0], [0, 2, -1])), {"way": [1, 0], "heights": [0, 2, -1]})
        self.assertEqual(vars(Never(3)), {"part": 3})
        self.assertEqual(vars(Every(4, 2)), {"many": 4, "late": 2})
        self.assertEqual(vars(Every(0, None)), {"many": 0, "late": None})
        self.assertEqual(vars(Held(-5)), {"part": -5})
        self.assertEqual(vars(Right()), {})
        self.assertEqual(vars(Wrong(7)), {"line": 7})

    def test_numbers_of_any_size_and_sign_are_held(self):
        self.assertEqual(vars(Come([HUGE, -HUGE], [-HUGE])), {"way": [HUGE, -HUGE], "heights": [-HUGE]})
        self.assertEqual((Never(HUGE).part, Held(-HUGE).part, Wrong(-HUGE).line), (HUGE, -HUGE, -HUGE))
        self.assertEqual(vars(Every(-HUGE, HUGE)), {"many": -HUGE, "late": HUGE})

    def test_lists_are_copied(self):
        way, heights = [0, 0], [0, 1, 2]
        come = Come(way, heights)
        way.append(5)
        heights[1] = 9
        self.assertEqual((come.way, come.heights), ([0, 0], [0, 1, 2]))
        come.way.append(7)
        come.heights.clear()
        self.assertEqual((way, heights), ([0, 0, 5], [0, 9, 2]))

    def test_one_list_for_both_is_copied_twice(self):
        both = [0]
        come = Come(both, both)
        come.way.append(1)
        self.assertEqual((come.heights, both), ([0], [0]))


class ComeTest(ShowsTest):
    RINGS = (
        (1, [1]), (1, [2, 60]), (2, [1]), (2, [2]), (5, [1]), (5, [2, 3]), (6, [2]), (6, [2, 4]), (6, [3, 4]),
        (7, [60]), (8, [4, 6]), (9, [3, 12]), (10, [1, 3, 4]), (12, [1, 5, 9, 13, 20, 60]), (12, [9]),
    )

    def test_right_ways_and_heights(self):
        for ring, steps in self.RINGS:
            for one in range(ring):
                heights = with_far_ones(ring, steps, one)
                for other in fewest(ring, steps, one):
                    way = one_way(ring, steps, one, other)
                    self.assertTrue(self.shown(Come(way, heights), ring, steps, one, other))

    def test_the_widest_ring(self):
        heights = [(place - 7) % 60 for place in range(60)]
        self.assertTrue(self.shown(Come([0] * 59, heights), 60, [1], 7, 6))
        self.assertFalse(self.shown(Come([0] * 58, heights), 60, [1], 7, 6))
        self.assertTrue(self.shown(Come([], heights), 60, [1], 7, 7))
        self.assertFalse(self.shown(Come([0], heights), 60, [60], 7, 7))

    def test_counts_not_numbers_of_steps_make_a_way(self):
        heights = [0, 2, 1, 1, 2]
        self.assertTrue(self.shown(Come([0], heights), 5, [2, 3], 0, 2))
        self.assertTrue(self.shown(Come([1], heights), 5, [2, 3], 0, 3))
        self.assertFalse(self.shown(Come([2], heights), 5, [2, 3], 0, 2))
        self.assertFalse(self.shown(Come([3], heights), 5, [2, 3], 0, 3))

    def test_any_way_as_short(self):
        heights = with_far_ones(10, [1, 3, 4, 14], 0)
        for way in ([0, 1], [1, 0]):
            self.assertFalse(self.shown(Come(way, heights), 10, [1, 3, 4, 14], 0, 4))
        for way in ([2], [3]):
            self.assertTrue(self.shown(Come(way, heights), 10, [1, 3, 4, 14], 0, 4))
        for way in ([0, 2], [2, 0], [3, 0], [0, 3]):
            self.assertTrue(self.shown(Come(way, heights), 10, [1, 3, 4, 14], 0, 5))

    def test_a_step_too_many(self):
        for ring, steps in self.RINGS:
            heights = with_far_ones(ring, steps, 0)
            for other in fewest(ring, steps, 0):
                way = one_way(ring, steps, 0, other)
                for more in ([0], [0] * ring, [len(steps) - 1] * 60):
                    self.assertFalse(self.shown(Come(way + more, heights), ring, steps, 0, other))

    def test_a_longer_way_with_its_length_as_height(self):
        # 1 + 1 leads to 2 as well as 2 does, but no heights can show it.
        for heights in itertools.product(range(-1, 4), repeat=4):
            self.assertFalse(self.shown(Come([0, 0], list(heights)), 4, [1, 2], 0, 2))

    def test_another_end(self):
        heights = [0, 1, 1, 2, 2]
        self.assertTrue(self.shown(Come([1, 0], heights), 5, [1, 2], 0, 3))
        for way in ([1, 1], [0, 0]):
            self.assertFalse(self.shown(Come(way, heights), 5, [1, 2], 0, 3))
        self.assertFalse(self.shown(Come([], [0, 0]), 2, [2], 0, 1))

    def test_a_number_that_is_no_step(self):
        heights = [0, 1, 1, 2, 2]
        # -1 would stand for the last step in a list, 2 and 3 lead around as steps would.
        for count in (-1, -2, 2, 3, 5, 60, HUGE, -HUGE, True, None, "0", [0]):
            self.assertFalse(self.shown(Come([count], heights), 5, [1, 2], 0, 2))
            self.assertFalse(self.shown(Come([0, count], heights), 5, [1, 2], 0, 3))

    def test_heights_that_are_not_the_fewest_steps(self):
        self.assertTrue(self.shown(Come([0], [0, 1, -3, -2, -1]), 5, [1], 0, 1))
        self.assertTrue(self.shown(Come([0], [0, 1, 1, 1, 1]), 5, [1], 0, 1))
        self.assertFalse(self.shown(Come([0], [0, 1, -3, -2, -2]), 5, [1], 0, 1))
        self.assertTrue(self.shown(Come([0, 0], [-1, 0, 1, 2, -2]), 5, [1], 1, 3))
        self.assertTrue(self.shown(Come([], [0] * 5), 5, [1, 2, 3], 4, 4))

    def test_one_number_bent(self):
        heights = [0, 1, 2, 3, 4]
        self.assertTrue(self.shown(Come([0] * 3, heights), 5, [1], 0, 3))
        for place in range(5):
            self.assertFalse(self.shown(Come([0] * 3, bent(heights, place, 1)), 5, [1], 0, 3))
            self.assertFalse(self.shown(Come([0] * 3, bent(heights, place, HUGE)), 5, [1], 0, 3))
        for place in range(4):
            self.assertFalse(self.shown(Come([0] * 3, bent(heights, place, -1)), 5, [1], 0, 3))
        # Lower at the last place breaks nothing that is told.
        self.assertTrue(self.shown(Come([0] * 3, bent(heights, 4, -1)), 5, [1], 0, 3))

    def test_every_step_is_asked(self):
        # Each single step brings one height up too far, over the ring's end, too.
        self.assertFalse(self.shown(Come([], [0, 0, 0, 2, 2]), 5, [1, 3, 60], 0, 0))
        self.assertFalse(self.shown(Come([], [0, 0, 0, 0, 2]), 5, [5, 6], 0, 0))
        self.assertFalse(self.shown(Come([], [0, -2, -2, -2, -2]), 5, [1], 0, 0))

    def test_all_moved_by_one(self):
        heights = [0, 1, 2, 3, 4]
        for by in (-1, 1, HUGE):
            moved = [height + by for height in heights]
            for other in range(5):
                self.assertFalse(self.shown(Come([0] * other, moved), 5, [1], 0, other))

    def test_a_height_fewer_or_more(self):
        for ring, steps in self.RINGS:
            heights = with_far_ones(ring, steps, 0)
            for other in fewest(ring, steps, 0):
                way = one_way(ring, steps, 0, other)
                for wrong in (heights[:-1], heights + [0], heights + heights, []):
                    self.assertFalse(self.shown(Come(way, wrong), ring, steps, 0, other))

    def test_alike_is_the_empty_way(self):
        for ring, steps in self.RINGS:
            for one in range(ring):
                self.assertTrue(self.shown(Come([], [0] * ring), ring, steps, one, one))
                self.assertFalse(self.shown(Come([0] * ring, [0] * ring), ring, steps, one, one))
        self.assertFalse(self.shown(Come([0], [1, 0]), 2, [2], 0, 0))

    def test_places_to_which_no_way_leads_have_heights(self):
        self.assertTrue(self.shown(Come([0], [0, 7, 1, 7, 2, 7]), 6, [2], 0, 2))
        self.assertTrue(self.shown(Come([0], [0, 7, 1, 8, 2, 9]), 6, [2], 0, 2))
        self.assertTrue(self.shown(Come([0], [0, -HUGE, 1, -HUGE, 2, -HUGE]), 6, [2], 0, 2))
        self.assertFalse(self.shown(Come([0], [0, 7, 1, 9, 2, 9]), 6, [2], 0, 2))
        self.assertFalse(self.shown(Come([0], [0, 1, 2]), 6, [2], 0, 2))
        self.assertFalse(self.shown(Come([0], [0, None, 1, None, 2, None]), 6, [2], 0, 2))

    def test_true_and_false_are_no_heights(self):
        self.assertTrue(self.shown(Come([0], [0, 1]), 2, [1], 0, 1))
        self.assertFalse(self.shown(Come([0], [False, 1]), 2, [1], 0, 1))
        self.assertFalse(self.shown(Come([0], [0, True]), 2, [1], 0, 1))

    def test_a_number_where_a_list_belongs(self):
        self.assertFalse(self.shown(Come(0, [0, 1]), 2, [1], 0, 1))
        self.assertFalse(self.shown(Come([0], 1), 2, [1], 0, 1))

    def test_long_lists(self):
        self.assertFalse(self.shown(Come([0] * 100000, [0, 1]), 2, [1], 0, 1))
        self.assertFalse(self.shown(Come([0], [0, 1] * 100000), 2, [1], 0, 1))

    def test_fields_as_they_stand_then(self):
        come = Come([0], [0, 1, 2])
        self.assertTrue(self.shown(come, 3, [1], 0, 1))
        come.way = [0, 0]
        self.assertFalse(self.shown(come, 3, [1], 0, 1))
        self.assertTrue(self.shown(come, 3, [1], 0, 2))
        come.way.pop()
        self.assertTrue(self.shown(come, 3, [1], 0, 1))
        come.heights = [0, 1]
        self.assertFalse(self.shown(come, 3, [1], 0, 1))
        come.heights.append(2)
        self.assertTrue(self.shown(come, 3, [1], 0, 1))
        come.heights[2] = 3
        self.assertFalse(self.shown(come, 3, [1], 0, 1))

    def test_all_small_ones_by_the_words(self):
        for ring, steps in ((1, [1]), (2, [1]), (2, [2, 3]), (3, [1]), (3, [2, 4]), (3, [3])):
            ways = [list(way) for many in range(4) for way in itertools.product(range(len(steps)), repeat=many)]
            for heights in itertools.product(range(-1, 4), repeat=ring):
                rises = [(place, (place + step) % ring) for place in range(ring) for step in steps]
                holds = all(heights[to] <= heights[place] + 1 for place, to in rises)
                for one, other in itertools.product(range(ring), repeat=2):
                    for way in ways:
                        leads = (one + sum(steps[count] for count in way)) % ring == other
                        fits = heights[one] == 0 and heights[other] == len(way)
                        truth = Come(way, list(heights)).shows(ring, steps, one, other)
                        self.assertIs(truth, leads and fits and holds)
                        if truth:
                            self.assertEqual(len(way), fewest(ring, steps, one)[other])


class NeverTest(ShowsTest):
    def test_a_number_that_goes_into_all_of_it(self):
        self.assertTrue(self.shown(Never(2), 6, [2, 4], 0, 1))
        self.assertTrue(self.shown(Never(2), 6, [2, 4], 5, 0))
        self.assertTrue(self.shown(Never(3), 12, [3, 9, 60], 11, 0))
        self.assertTrue(self.shown(Never(60), 60, [60], 59, 0))
        self.assertTrue(self.shown(Never(6), 12, [6], 1, 4))

    def test_one_that_does_not(self):
        self.assertFalse(self.shown(Never(3), 6, [2, 4], 0, 1))
        self.assertFalse(self.shown(Never(2), 6, [2, 3], 0, 1))
        self.assertFalse(self.shown(Never(2), 6, [3, 4], 0, 1))
        self.assertFalse(self.shown(Never(2), 5, [2, 4], 0, 1))
        self.assertFalse(self.shown(Never(4), 6, [4, 8], 0, 1))

    def test_one_that_goes_into_how_much_farther_on_it_is(self):
        self.assertFalse(self.shown(Never(2), 6, [2, 4], 0, 2))
        self.assertFalse(self.shown(Never(2), 6, [2, 4], 5, 1))
        self.assertFalse(self.shown(Never(2), 6, [2], 3, 3))
        self.assertFalse(self.shown(Never(3), 12, [6], 1, 4))

    def test_1_0_and_below(self):
        for part in (1, 0, -1, -2, -6, -HUGE, True, False, None):
            self.assertFalse(self.shown(Never(part), 6, [2, 4], 0, 1))

    def test_great_ones(self):
        for part in (7, 61, 120, HUGE):
            self.assertFalse(self.shown(Never(part), 6, [6], 0, 1))

    def test_the_ring_of_one_place(self):
        for part in range(-3, 9):
            self.assertFalse(self.shown(Never(part), 1, [6], 0, 0))

    def test_field_as_it_stands_then(self):
        never = Never(3)
        never.part = 2
        self.assertTrue(self.shown(never, 6, [2, 4], 0, 1))
        never.part = 4
        self.assertFalse(self.shown(never, 6, [2, 4], 0, 1))

    def test_shown_by_one_just_where_no_way_leads(self):
        for ring in range(1, 13):
            for steps in ([1], [2], [3], [6], [2, 4], [3, 9], [4, 10], [2, 3], [12, 24], [6, 15, 60]):
                come = fewest(ring, steps, 1 % ring)
                for other in range(ring):
                    parts = [part for part in range(-13, 62) if Never(part).shows(ring, steps, 1 % ring, other)]
                    self.assertEqual(bool(parts), other not in come)
                    for part in parts:
                        self.assertGreaterEqual(part, 2)
                        self.assertEqual([number % part for number in [ring] + steps], [0] * (1 + len(steps)))


def least(ring, steps):
    """The least count by which each place is come to, None if none up to twice the ring's."""
    for many in range(2 * ring + 1):
        if len(come_by(ring, steps, many)) == ring:
            return many
    return None


class EveryTest(ShowsTest):
    def test_the_least_count_and_a_late_place(self):
        # By one step 1 and 2, by two 2, 3 and 4, by three 3, 4, 0 and 1.
        self.assertTrue(self.shown(Every(4, 2), 5, [1, 2]))
        for late in (0, 1, 3, 4):
            self.assertFalse(self.shown(Every(4, late), 5, [1, 2]))

    def test_one_fewer_and_one_more(self):
        for late in range(-2, 8):
            for many in (0, 1, 2, 3, 5, 6, 7, 8, 9, 10):
                self.assertFalse(self.shown(Every(many, late), 5, [1, 2]))
            self.assertFalse(self.shown(Every(3, None), 5, [1, 2]))

    def test_a_place_that_is_none(self):
        for late in (-3, 7, 12, -1, 5, HUGE, -HUGE, True, "2", [2]):
            self.assertFalse(self.shown(Every(4, late), 5, [1, 2]))

    def test_true_is_no_number(self):
        self.assertTrue(self.shown(Every(1, 1), 2, [1, 2]))
        self.assertTrue(self.shown(Every(1, 1), 3, [1, 2, 3]))
        self.assertFalse(self.shown(Every(True, 1), 2, [1, 2]))
        self.assertFalse(self.shown(Every(1, True), 2, [1, 2]))
        self.assertFalse(self.shown(Every(False, None), 1, [1]))
        self.assertFalse(self.shown(Every(None, None), 1, [1]))

    def test_none_where_the_count_is_not_0(self):
        for many in range(1, 8):
            self.assertFalse(self.shown(Every(many, None), 5, [1, 2]))
            self.assertFalse(self.shown(Every(many, None), 1, [1, 2]))

    def test_the_ring_of_one_place(self):
        for steps in ([1], [60], [1, 2, 3, 4, 5, 6]):
            self.assertTrue(self.shown(Every(0, None), 1, steps))
            for late in (0, 1, -1, HUGE):
                self.assertFalse(self.shown(Every(0, late), 1, steps))
                self.assertFalse(self.shown(Every(1, late), 1, steps))

    def test_0_on_other_rings(self):
        for ring in (2, 5, 60):
            for late in (None, 0, 1):
                self.assertFalse(self.shown(Every(0, late), ring, [1, 2]))

    def test_counts_of_great_size_and_below_0(self):
        for many in (-1, -4, 60, 61, 1000000, HUGE, HUGE + 4, -HUGE):
            for late in (None, 0, 2):
                self.assertFalse(self.shown(Every(many, late), 5, [1, 2]))
                self.assertFalse(self.shown(Every(many, late), 1, [1, 2]))
                self.assertFalse(self.shown(Every(many, late), 6, [2, 4]))

    def test_the_latest_that_can_be(self):
        self.assertTrue(self.shown(Every(59, 57), 60, [1, 2]))
        self.assertFalse(self.shown(Every(59, 56), 60, [1, 2]))
        self.assertFalse(self.shown(Every(58, 55), 60, [1, 2]))
        self.assertFalse(self.shown(Every(60, 58), 60, [1, 2]))

    def test_field_as_it_stands_then(self):
        answer = Every(4, 2)
        answer.many = 3
        self.assertFalse(self.shown(answer, 5, [1, 2]))
        answer.many = 4
        self.assertTrue(self.shown(answer, 5, [1, 2]))
        answer.late = 3
        self.assertFalse(self.shown(answer, 5, [1, 2]))
        answer.late = None
        self.assertFalse(self.shown(answer, 5, [1, 2]))

    def test_all_small_ones_by_the_words(self):
        for ring in range(1, 9):
            for many_steps in (1, 2, 3):
                for steps in itertools.combinations(range(1, 10), many_steps):
                    self.by_the_words(ring, list(steps))

    def by_the_words(self, ring, steps):
        first = least(ring, steps)
        missed = set(range(ring)) - come_by(ring, steps, first - 1) if first else {None}
        for many in range(-1, ring + 2):
            for late in (None, *range(-1, ring + 1)):
                truth = Every(many, late).shows(ring, steps)
                self.assertIs(truth, many == first and late in missed, (ring, steps, many, late))


class HeldTest(ShowsTest):
    def test_a_number_that_goes_into_the_count_and_all_differences(self):
        self.assertTrue(self.shown(Held(2), 6, [1, 3, 5]))
        self.assertTrue(self.shown(Held(2), 6, [2, 4]))
        self.assertTrue(self.shown(Held(3), 6, [1, 4]))
        self.assertTrue(self.shown(Held(4), 60, [3, 7, 59]))
        self.assertTrue(self.shown(Held(2), 60, [3, 7, 59]))

    def test_one_that_does_not(self):
        self.assertFalse(self.shown(Held(3), 6, [1, 3, 5]))
        self.assertFalse(self.shown(Held(2), 6, [1, 3, 4]))
        self.assertFalse(self.shown(Held(2), 6, [1, 2, 5]))
        self.assertFalse(self.shown(Held(2), 5, [1, 3, 5]))
        self.assertFalse(self.shown(Held(4), 6, [1, 5]))
        # Into all steps, but not into the ring's count; into the count, but no difference.
        self.assertFalse(self.shown(Held(4), 6, [4, 8]))
        self.assertFalse(self.shown(Held(7), 7, [7, 8]))

    def test_1_0_and_below(self):
        for part in (1, 0, -1, -2, -HUGE, True, False, None):
            self.assertFalse(self.shown(Held(part), 6, [1, 3, 5]))
            self.assertFalse(self.shown(Held(part), 6, [5]))

    def test_great_ones(self):
        for part in (12, 60, HUGE):
            self.assertFalse(self.shown(Held(part), 6, [1, 13]))

    def test_one_step_alone(self):
        for part in range(-7, 15):
            self.assertIs(self.shown(Held(part), 6, [5]), part in (2, 3, 6))
            self.assertFalse(self.shown(Held(part), 1, [5]))
        self.assertTrue(self.shown(Held(7), 7, [1]))

    def test_field_as_it_stands_then(self):
        held = Held(3)
        held.part = 2
        self.assertTrue(self.shown(held, 6, [1, 3]))
        held.part = 1
        self.assertFalse(self.shown(held, 6, [1, 3]))

    def test_shown_by_one_just_where_no_count_brings_all(self):
        for ring in range(1, 13):
            for many_steps in (1, 2, 3):
                for steps in itertools.combinations((1, 2, 3, 5, 8, 13, 60), many_steps):
                    parts = [part for part in range(-13, 62) if Held(part).shows(ring, list(steps))]
                    self.assertEqual(bool(parts), least(ring, steps) is None)
                    for part in parts:
                        self.assertGreaterEqual(part, 2)
                        self.assertEqual(ring % part, 0)
                        self.assertEqual(len({step % part for step in steps}), 1)


RING, STEPS, PLACE = 5, [1, 3], 4
TALE = [("go", 0, 0), ("go", 1, 3), ("back", 0), ("back", 4), ("go", 1, 2), ("go", 1, 0)]


def with_line(line, deed):
    """The right tale with another deed on one line."""
    return TALE[:line] + [deed] + TALE[line + 1:]


class TaleTest(ShowsTest):
    def assert_right(self, tale, ring=RING, steps=STEPS, place=PLACE):
        self.assertTrue(self.shown(Right(), ring, steps, place, tale))
        for line in (-1, 0, 1, len(tale) - 1, len(tale), len(tale) + 1, HUGE, None):
            self.assertFalse(self.shown(Wrong(line), ring, steps, place, tale))

    def assert_wrong(self, first, tale, ring=RING, steps=STEPS, place=PLACE):
        self.assertFalse(self.shown(Right(), ring, steps, place, tale))
        for line in (*range(-1 - len(tale), len(tale) + 2), HUGE, -HUGE, True, False, None):
            truth = self.shown(Wrong(line), ring, steps, place, tale)
            self.assertIs(truth, line == first and not isinstance(line, bool))

    def test_a_tale_that_a_walker_can_have(self):
        for many in range(len(TALE) + 1):
            self.assert_right(TALE[:many])

    def test_the_empty_one(self):
        self.assert_right([])
        self.assert_right([], 1, [60], 0)

    def test_another_place(self):
        for line, deed in enumerate(TALE):
            for place in (*range(-6, 11), HUGE):
                if place != deed[-1]:
                    self.assert_wrong(line, with_line(line, deed[:-1] + (place,)))

    def test_a_step_that_is_none(self):
        for line in (0, 1, 4, 5):
            for step in (-1, -2, 2, 3, 5, 60, HUGE, -HUGE):
                for place in range(5):
                    self.assert_wrong(line, with_line(line, ("go", step, place)))

    def test_another_step(self):
        for line in (0, 1, 4, 5):
            step = 1 - TALE[line][1]
            self.assert_wrong(line, with_line(line, ("go", step, TALE[line][2])))

    def test_steps_are_told_by_counts(self):
        self.assert_right([("go", 0, 1)], 9, [1, 3], 0)
        self.assert_wrong(0, [("go", 1, 1)], 9, [1, 3], 0)
        self.assert_right([("go", 1, 3)], 9, [1, 3], 0)
        self.assert_wrong(0, [("go", 3, 3)], 9, [1, 3], 0)

    def test_nothing_to_take_back(self):
        for place in range(5):
            self.assert_wrong(0, [("back", place)])
            self.assert_wrong(4, TALE[:4] + [("back", place)])
            self.assert_wrong(2, [("go", 0, 0), ("back", 4), ("back", place)])

    def test_takes_back_the_last_one_that_is_not_taken_back(self):
        self.assert_right([("go", 0, 0), ("go", 1, 3), ("back", 0), ("go", 0, 1), ("back", 0), ("back", 4)])
        self.assert_wrong(2, [("go", 0, 0), ("go", 1, 3), ("back", 4)])
        self.assert_wrong(3, [("go", 0, 0), ("go", 1, 3), ("back", 0), ("back", 3)])

    def test_steps_around_and_alike_on_the_ring(self):
        self.assert_right([("go", 0, 1), ("go", 1, 4), ("go", 2, 4), ("back", 4), ("back", 1)], 5, [3, 13, 60], 3)
        self.assert_right([("go", 0, 0), ("go", 1, 0), ("back", 0), ("back", 0)], 1, [1, 60], 0)
        self.assert_wrong(2, [("go", 0, 0), ("back", 0), ("back", 0)], 1, [1, 60], 0)

    def test_the_first_of_several(self):
        tale = [("go", 0, 0), ("go", 1, 4), ("back", 3), ("go", 9, 9), ("back", 4)]
        self.assert_wrong(1, tale)
        self.assert_wrong(0, [("go", 7, 7), ("back", 7)])

    def test_sixty_lines_and_some_more(self):
        for many in (60, 61, 70, 300):
            tale = [("go", 0, (line + 1) % 5) for line in range(many)]
            self.assert_right(tale, 5, [1], 0)
            self.assertFalse(self.shown(Right(), 5, [1], 0, tale[:-1] + [("back", 0)] * 4))
        back = [("go", 0, (line + 1) % 5) for line in range(30)] + [("back", line % 5) for line in range(29, -1, -1)]
        self.assert_right(back, 5, [1], 0)
        self.assert_wrong(60, back + [("back", 0)], 5, [1], 0)

    def test_other_beginnings(self):
        self.assert_wrong(0, TALE, place=3)
        self.assert_right([("go", 0, 4)], place=3)

    def test_line_as_it_stands_then(self):
        wrong, tale = Wrong(0), with_line(1, ("go", 1, 4))
        wrong.line = 1
        self.assertTrue(self.shown(wrong, RING, STEPS, PLACE, tale))
        wrong.line = 2
        self.assertFalse(self.shown(wrong, RING, STEPS, PLACE, tale))


if __name__ == "__main__":
    unittest.main()
