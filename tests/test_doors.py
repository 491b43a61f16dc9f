"""Point 1 at each door: the refusals, each of just its class and in the told order; nothing handed in is changed."""

import inspect
import itertools
import unittest

from roundsteps.answers import Answer
from roundsteps.counted import how_many, number_of, way_by
from roundsteps.errors import BadCount, BadNumber, BadPlace, BadRing, BadSteps, BadWay
from roundsteps.sets import after, every
from roundsteps.ways import far, nearest, told
from tests.helpers import HUGE, NEITHER, Odd

RING, STEPS, PLACE, MANY, ANY_MANY, NUMBER, WAY = "ring", "steps", "place", "many", "any many", "number", "way"

# Each door with the kinds of what it takes, and arguments that it takes.
DOORS = {
    told: ((RING, STEPS, PLACE, PLACE), (7, [2, 3], 1, 0)),
    nearest: ((RING, STEPS, PLACE), (7, [2, 3], 1)),
    far: ((RING, STEPS), (7, [2, 3])),
    how_many: ((RING, STEPS, PLACE, PLACE, MANY), (7, [2, 3], 1, 0, 9)),
    way_by: ((RING, STEPS, PLACE, PLACE, MANY, NUMBER), (7, [2, 3], 1, 0, 9, 36)),
    number_of: ((RING, STEPS, WAY), (7, [2, 3], [0, 1, 1, 0])),
    after: ((RING, STEPS, PLACE, ANY_MANY), (7, [2, 3], 1, 2)),
    every: ((RING, STEPS), (7, [2, 3])),
}
REFUSALS = {
    RING: BadRing, STEPS: BadSteps, PLACE: BadPlace, MANY: BadCount, ANY_MANY: BadCount, NUMBER: BadNumber,
    WAY: BadWay,
}
NO_NUMBERS = NEITHER + ([1], [0], "0", (0,))
WRONG = {
    RING: NO_NUMBERS + (0, -1, 61, 62, -60, HUGE, -HUGE),
    STEPS: NEITHER + (
        0, 1, 5, HUGE, (2, 3), "23", range(2, 4), {2: 3}, [0], [61], [0, 3], [3, 61], [-1, 3], [3, 3], [3, 2],
        [2, 3, 3], [1, 3, 2], [1, 2, 3, 4, 5, 6, 7], [2, HUGE], [-HUGE, 2], [True], [True, 2], [False, 2], [1, None],
        [None], ["2"], [2, "3"], [[2]], [(2,)], [2, [3]], [Odd()], [2, Odd()], [2, b"3"],
    ),
    PLACE: NO_NUMBERS + (-1, 7, 8, -7, HUGE, -HUGE),
    MANY: NO_NUMBERS + (-1, -200, 201, 202, HUGE, -HUGE),
    ANY_MANY: NO_NUMBERS + (-1, -2, -HUGE),
    # There are 37 ways of 9 steps from 1 to 0 by the steps 2 and 3 on the ring of 7.
    NUMBER: NO_NUMBERS + (-1, -37, 37, 38, HUGE, -HUGE),
    WAY: tuple(value for value in NEITHER if value.__class__ is not list) + (
        0, 1, HUGE, "01", (0, 1), range(2), {0: 1}, {0, 1}, [-1], [2], [0, 3], [0, -1, 1], [1, 2], [HUGE], [-HUGE],
        [True], [False], [0, True], [False, 1], [None], [0, None], ["0"], [b"0"], [[0]], [(0,)], [0, [1]], [Odd()],
        [0, Odd()], [0] * 201, [1] * 202, [0] * 200 + [2], [0] * 199 + [2],
    ),
}
# Of each kind, one that is wrong, to be handed in beside others.
ONE_WRONG = {
    RING: (0, None, [1]), STEPS: ([], (2, 3), [3, 3]), PLACE: (-1, 60, "0"), MANY: (201, -1, True),
    ANY_MANY: (-1, None), NUMBER: (-1, HUGE, True), WAY: ((0, 1), [6], [0] * 201),
}


def plain(answer):
    """What is told, as something that can be compared."""
    return (answer.__class__, vars(answer)) if isinstance(answer, Answer) else answer


def held(value):
    """What a value is made of, by what the very things are."""
    return (id(value), [id(member) for member in value]) if isinstance(value, list) else id(value)


def with_one(given, at, value):
    """Arguments with another one in one place; lists in them are new."""
    return [value if place == at else fresh(other) for place, other in enumerate(given)]


def fresh(value):
    return list(value) if isinstance(value, list) else value


class Doors(unittest.TestCase):
    def test_arguments_are_named_as_told(self):
        names = {
            told: "ring steps one other", nearest: "ring steps place", far: "ring steps",
            how_many: "ring steps one other many", way_by: "ring steps one other many number",
            number_of: "ring steps way", after: "ring steps place many", every: "ring steps",
        }
        self.assertEqual(set(names), set(DOORS))
        for door, told_names in names.items():
            self.assertEqual(" ".join(inspect.signature(door).parameters), told_names)

    def refused(self, door, handed, refusal):
        before = [held(value) for value in handed]
        try:
            door(*handed)
        except ValueError as error:
            self.assertIs(error.__class__, refusal)
        else:
            self.fail("not refused")
        self.assertEqual([held(value) for value in handed], before)

    def test_good_ones_are_not_refused_and_stay_as_they_were(self):
        for door, (_, given) in DOORS.items():
            with self.subTest(door.__name__):
                handed = with_one(given, None, None)
                before = [held(value) for value in handed]
                answer = plain(door(*handed))
                self.assertEqual(plain(door(*handed)), answer)
                self.assertEqual([held(value) for value in handed], before)

    def test_each_wrong_one_is_refused_by_just_its_class(self):
        for door, (kinds, given) in DOORS.items():
            for at, kind in enumerate(kinds):
                for which, wrong in enumerate(WRONG[kind]):
                    with self.subTest((door.__name__, at, which)):
                        self.refused(door, with_one(given, at, wrong), REFUSALS[kind])

    def test_of_two_wrong_ones_the_refusal_that_is_told_first(self):
        for door, (kinds, given) in DOORS.items():
            for first, second in itertools.combinations(range(len(kinds)), 2):
                for one, other in itertools.product(ONE_WRONG[kinds[first]], ONE_WRONG[kinds[second]]):
                    with self.subTest((door.__name__, first, second)):
                        handed = with_one(with_one(given, first, one), second, other)
                        self.refused(door, handed, REFUSALS[kinds[first]])

    def test_of_all_wrong_ones_the_refusal_that_is_told_first(self):
        for door, (kinds, given) in DOORS.items():
            for right in range(len(kinds)):
                handed = list(given[:right]) + [ONE_WRONG[kind][0] for kind in kinds[right:]]
                with self.subTest((door.__name__, right)):
                    self.refused(door, handed, REFUSALS[kinds[right]])

    def test_rings_of_1_and_60_places(self):
        for door, (kinds, given) in DOORS.items():
            for ring in (1, 60):
                handed = [ring] + [0 if kind == PLACE else value for kind, value in zip(kinds, given)][1:]
                with self.subTest((door.__name__, ring)):
                    if NUMBER in kinds:
                        # By 9 steps of 2 and 3 from 0 on, 20 is come to by as few as 36 ways.
                        handed[3:] = [20 % ring, 9, 35]
                    door(*handed)
                    for at in [at for at, kind in enumerate(kinds) if kind == PLACE]:
                        self.refused(door, with_one(handed, at, ring), BadPlace)
                        self.refused(door, with_one(handed, at, -1), BadPlace)

    def test_one_step_and_six_and_the_greatest(self):
        for door, (kinds, given) in DOORS.items():
            for steps in ([1], [60], [1, 60], [1, 2, 3, 4, 5, 6], [55, 56, 57, 58, 59, 60]):
                handed = [1, steps] + [0 if kind == PLACE else value for kind, value in zip(kinds, given)][2:]
                if NUMBER in kinds:
                    handed[-1] = 0
                if WAY in kinds:
                    handed[-1] = [0, len(steps) - 1]
                with self.subTest((door.__name__, steps)):
                    door(*handed)

    def test_counts_of_0_and_200(self):
        for many in (0, 200):
            how_many(7, [2, 3], 1, 1, many)
            way_by(7, [2, 3], 1, 1, many, 0)
            number_of(7, [2, 3], [1] * many)
            after(7, [2, 3], 1, many)

    def test_steps_changed_in_place_are_told_anew(self):
        for door, (_, given) in DOORS.items():
            with self.subTest(door.__name__):
                handed = with_one(given, None, None)
                steps = handed[1]
                for now in ([2, 3], [1, 3], [1, 5, 6], [2, 3], [3, 10]):
                    steps[:] = now
                    self.assertEqual(plain(door(*handed)), plain(door(*with_one(given, 1, now))))
                steps[:] = [3, 3]
                self.refused(door, handed, BadSteps)
                steps[:] = [2, 3]
                self.assertEqual(plain(door(*handed)), plain(door(*given)))

    def test_steps_that_tell_other_things_than_before(self):
        steps = [2, 4]
        self.assertEqual((far(6, steps), nearest(6, steps, 0)[1], how_many(6, steps, 0, 1, 1)), (None, None, 0))
        self.assertEqual((after(6, steps, 0, 1), every(6, steps).part, told(6, steps, 0, 1).part), ([2, 4], 2, 2))
        steps[0] = 1
        self.assertEqual((far(6, steps), nearest(6, steps, 0)[1], how_many(6, steps, 0, 1, 1)), (3, 1, 1))
        self.assertEqual((after(6, steps, 0, 1), every(6, steps).part, told(6, steps, 0, 1).way), ([1, 4], 3, [0]))

    def test_a_way_changed_in_place_is_told_anew(self):
        way = [0, 1, 0]
        self.assertEqual(number_of(1, [1, 2], way), 2)
        way[0] = 1
        self.assertEqual(number_of(1, [1, 2], way), 6)
        way.append(1)
        self.assertEqual(number_of(1, [1, 2], way), 13)
        way[0] = 2
        self.refused(number_of, [1, [1, 2], way], BadWay)
        way.clear()
        self.assertEqual(number_of(1, [1, 2], way), 0)

    def test_what_is_told_is_none_of_what_is_handed_in(self):
        way, steps = [0, 1], [1, 2]
        number = number_of(5, steps, way)
        self.assertIsNot(way_by(5, steps, 0, 3, 2, number), way)
        for answer in (nearest(5, steps, 0), after(5, steps, 0, 1), told(5, steps, 0, 3).way):
            answer.clear()
        self.assertEqual((way, steps), ([0, 1], [1, 2]))


if __name__ == "__main__":
    unittest.main()
