"""Point 1 at each door: the refusals, each of just its class and in the told order; nothing handed in is changed."""

import inspect
import itertools
import unittest

from roundsteps.answers import Answer, Right, Wrong
from roundsteps.changes import added, told_back, twos
from roundsteps.counted import how_many, number_of, way_by
from roundsteps.errors import BadCount, BadNumber, BadPlace, BadPlaces, BadRing, BadSteps, BadTale, BadWay
from roundsteps.sets import after, every
from roundsteps.tales import judged
from roundsteps.walkers import Walker
from roundsteps.ways import far, nearest, told
from tests.helpers import EDGES, ENDLESS, HUGE, NEITHER, Odd, all_told, drawn_walks

RING, STEPS, PLACE, MANY, ANY_MANY, NUMBER, WAY = "ring", "steps", "place", "many", "any many", "number", "way"
SMALL_RING, FIVE_STEPS, PLACES, TALE = "small ring", "five steps", "places", "tale"

# Each door with the kinds of what it takes, and arguments that it takes.
DOORS = {
    told: ((RING, STEPS, PLACE, PLACE), (7, [2, 3], 1, 0)),
    nearest: ((RING, STEPS, PLACE), (7, [2, 3], 1)),
    far: ((RING, STEPS), (7, [2, 3])),
    how_many: ((RING, STEPS, PLACE, PLACE, MANY), (7, [2, 3], 1, 0, 9)),
    way_by: ((RING, STEPS, PLACE, PLACE, MANY, NUMBER), (7, [2, 3], 1, 0, 9, 36)),
    number_of: ((RING, STEPS, WAY), (7, [2, 3], [0, 1, 1, 0])),
    after: ((RING, STEPS, PLACE, ANY_MANY), (7, [2, 3], 1, 2)),
    every: ((RING, STEPS), (7, [2, 3])),
    added: ((RING, FIVE_STEPS), (7, [2, 3])),
    twos: ((RING, STEPS), (7, [2, 3])),
    told_back: ((SMALL_RING, PLACES), (7, [2, 3, 4])),
    Walker: ((RING, STEPS, PLACE), (7, [2, 3], 1)),
    judged: ((RING, STEPS, PLACE, TALE), (7, [2, 3], 1, [("go", 0, 3), ("back", 1), ("back", 0)])),
}
WITH_STEPS = {door: given for door, (kinds, given) in DOORS.items() if kinds[1] in (STEPS, FIVE_STEPS)}
REFUSALS = {
    RING: BadRing, STEPS: BadSteps, PLACE: BadPlace, MANY: BadCount, ANY_MANY: BadCount, NUMBER: BadNumber,
    WAY: BadWay, SMALL_RING: BadRing, FIVE_STEPS: BadSteps, PLACES: BadPlaces, TALE: BadTale,
}
NO_LISTS = tuple(value for value in NEITHER if not isinstance(value, list))
NO_NUMBERS = NEITHER + ([1], [0], "0", (0,))
WRONG = {
    RING: NO_NUMBERS + (0, -1, 61, 62, -60, HUGE, -HUGE),
    STEPS: NEITHER + (
        0, 1, 5, HUGE, (2, 3), "23", range(2, 4), {2: 3}, [0], [61], [0, 3], [3, 61], [-1, 3], [3, 3], [3, 2],
        [2, 3, 3], [1, 3, 2], [1, 2, 3, 4, 5, 6, 7], [2, HUGE], [-HUGE, 2], [True], [True, 2], [False, 2], [1, None],
        [None], ["2"], [2, "3"], [[2]], [(2,)], [2, [3]], [Odd()], [2, Odd()], [2, b"3"],
    ),
    PLACE: NO_NUMBERS + (-1, 7, 8, -7, HUGE, -HUGE),
    MANY: NO_NUMBERS + (-1, -200, 201, 202, HUGE, -HUGE),
    ANY_MANY: NO_NUMBERS + (-1, -2, -HUGE),
    # There are 37 ways of 9 steps from 1 to 0 by the steps 2 and 3 on the ring of 7.
    NUMBER: NO_NUMBERS + (-1, -37, 37, 38, HUGE, -HUGE),
    WAY: NO_LISTS + (
        0, 1, HUGE, "01", (0, 1), range(2), {0: 1}, {0, 1}, ENDLESS, [-1], [2], [0, 3], [0, -1, 1], [1, 2], [HUGE],
        [-HUGE], [True], [False], [0, True], [False, 1], [None], [0, None], ["0"], [b"0"], [[0]], [(0,)], [0, [1]],
        [Odd()], [0, Odd()], [0] * 201, [1] * 202, [0] * 200 + [2], [0] * 199 + [2],
    ),
    PLACES: NO_LISTS + (
        0, 1, HUGE, "01", (0, 1), range(2), {0: 1}, {0, 1}, ENDLESS, [-1], [7], [0, 7], [-1, 0], [1, 0],
        [0, 0], [0, 1, 1], [0, 2, 1], [HUGE], [-HUGE, 0], [True], [False], [0, True], [False, 1], [None], [0, None],
        ["0"], [0, "1"], [b"0"], [[0]], [(0,)], [0, [1]], [Odd()], [0, Odd()], [0, 1, 2, 3, 4, 5, 6, 7], [0] * 1000,
    ),
    TALE: NO_LISTS + (
        0, 1, HUGE, "go", ("go", 0, 3), (("go", 0, 3),), {("go", 0, 3): 1}, ENDLESS, [None], [True], [0], ["go"],
        [Odd()], [[]], [()], [["go", 0, 3]], [("go", 0)], [("go",)], [("go", 0, 3, 3)], [("back",)], [("back", 1, 1)],
        [("stay", 1)], [("Go", 0, 3)], [(b"back", 1)], [(0, 3)], [("go", True, 3)], [("go", 0, None)],
        [("go", "0", 3)], [("back", False)], [("back", "1")], [("back", [1])], [("go", Odd(), Odd())], [(Odd(), 0)],
        [(Odd(), 0, 3)], [("go", 0, 3), ["back", 1]], [("back", 1), ("back", None)], [("back", 1)] * 61,
        [("go", 0, 3)] * 62, [("back", 1)] * 60 + [None], [("go", 0, 3)] * 59 + [("go", 0)],
    ),
}
WRONG[SMALL_RING] = WRONG[RING] + (9, 10, 59, 60)
WRONG[FIVE_STEPS] = WRONG[STEPS] + ([1, 2, 3, 4, 5, 6], [2, 4, 6, 8, 10, 12], [55, 56, 57, 58, 59, 60])
# Of each kind, one that is wrong, to be handed in beside others.
ONE_WRONG = {
    RING: (0, None, [1]), STEPS: ([], (2, 3), [3, 3]), PLACE: (-1, 60, "0"), MANY: (201, -1, True),
    ANY_MANY: (-1, None), NUMBER: (-1, HUGE, True), WAY: ((0, 1), [6], [0] * 201), SMALL_RING: (0, None, 9, 61),
    FIVE_STEPS: ([], (2, 3), [3, 3], [1, 2, 3, 4, 5, 6]), PLACES: (None, [-1], [60], [1, 0], (0, 1)),
    TALE: (None, [("back",)], [("back", True)], [("back", 1)] * 61),
}


def plain(answer):
    """What is told, as something that can be compared."""
    if isinstance(answer, Walker):
        return all_told(answer)
    return (answer.__class__, vars(answer)) if isinstance(answer, Answer) else answer


def members(told):
    """All that stands within what is told, lists and tuples gone through."""
    if isinstance(told, (list, tuple)):
        return [member for inner in told for member in members(inner)]
    return members(list(vars(told).values())) if isinstance(told, Answer) else [told]


def held(value):
    """What a value is made of, by what the very things are."""
    return (id(value), [id(member) for member in value]) if isinstance(value, list) else id(value)


def with_one(given, at, value):
    """Arguments with another one in one place; lists in them are new."""
    return [value if place == at else fresh(other) for place, other in enumerate(given)]


def fresh(value):
    return list(value) if isinstance(value, list) else value


class Doors(unittest.TestCase):
    def test_arguments_are_named_as_told(self):
        names = {
            told: "ring steps one other", nearest: "ring steps place", far: "ring steps",
            how_many: "ring steps one other many", way_by: "ring steps one other many number",
            number_of: "ring steps way", after: "ring steps place many", every: "ring steps",
            added: "ring steps", twos: "ring steps", told_back: "ring places", Walker: "ring steps place",
            judged: "ring steps place tale",
        }
        self.assertEqual(set(names), set(DOORS))
        for door, told_names in names.items():
            self.assertEqual(" ".join(inspect.signature(door).parameters), told_names)

    def refused(self, door, handed, refusal):
        before = [held(value) for value in handed]
        try:
            door(*handed)
        except ValueError as error:
            self.assertIs(error.__class__, refusal)
        else:
            self.fail("not refused")
        self.assertEqual([held(value) for value in handed], before)

    def test_good_ones_are_not_refused_and_stay_as_they_were(self):
        for door, (_, given) in DOORS.items():
            with self.subTest(door.__name__):
                handed = with_one(given, None, None)
                before = [held(value) for value in handed]
                answer = plain(door(*handed))
                self.assertEqual(plain(door(*handed)), answer)
                self.assertEqual([held(value) for value in handed], before)

    def test_each_wrong_one_is_refused_by_just_its_class(self):
        for door, (kinds, given) in DOORS.items():
            for at, kind in enumerate(kinds):
                for which, wrong in enumerate(WRONG[kind]):
                    with self.subTest((door.__name__, at, which)):
                        self.refused(door, with_one(given, at, wrong), REFUSALS[kind])

    def test_of_two_wrong_ones_the_refusal_that_is_told_first(self):
        for door, (kinds, given) in DOORS.items():
            for first, second in itertools.combinations(range(len(kinds)), 2):
                for one, other in itertools.product(ONE_WRONG[kinds[first]], ONE_WRONG[kinds[second]]):
                    with self.subTest((door.__name__, first, second)):
                        handed = with_one(with_one(given, first, one), second, other)
                        self.refused(door, handed, REFUSALS[kinds[first]])

    def test_of_all_wrong_ones_the_refusal_that_is_told_first(self):
        for door, (kinds, given) in DOORS.items():
            for right in range(len(kinds)):
                handed = list(given[:right]) + [ONE_WRONG[kind][0] for kind in kinds[right:]]
                with self.subTest((door.__name__, right)):
                    self.refused(door, handed, REFUSALS[kinds[right]])

    def test_counts_of_places(self):
        for door, (kinds, given) in DOORS.items():
            for ring in (1, 8) if kinds[0] == SMALL_RING else (1, 8, 9, 60):
                with self.subTest((door.__name__, ring)):
                    handed = [ring, *self.on_a_small_ring(kinds, given)[1:]]
                    if NUMBER in kinds:
                        # By 9 steps of 2 and 3 from 0 on, 20 is come to by as few as 36 ways.
                        handed[3:] = [20 % ring, 9, 35]
                    door(*handed)
                    for at in [at for at, kind in enumerate(kinds) if kind == PLACE]:
                        self.refused(door, with_one(handed, at, ring), BadPlace)
                        self.refused(door, with_one(handed, at, -1), BadPlace)

    def on_a_small_ring(self, kinds, given):
        """Arguments that hold on the ring of one place, too."""
        least = {PLACE: 0, PLACES: [0], NUMBER: 0}
        return [least.get(kind, value) for kind, value in zip(kinds, given)]

    def test_one_step_and_six_and_the_greatest(self):
        for door in WITH_STEPS:
            kinds, given = DOORS[door]
            many = 5 if kinds[1] == FIVE_STEPS else 6
            for steps in ([1], [60], [1, 60], [1, 2, 3, 4, 5, 6][:many], [55, 56, 57, 58, 59, 60][-many:]):
                handed = [1, steps, *self.on_a_small_ring(kinds, given)[2:]]
                if WAY in kinds:
                    handed[-1] = [0, len(steps) - 1]
                with self.subTest((door.__name__, steps)):
                    door(*handed)

    def test_counts_of_0_and_200(self):
        for many in (0, 200):
            how_many(7, [2, 3], 1, 1, many)
            way_by(7, [2, 3], 1, 1, many, 0)
            number_of(7, [2, 3], [1] * many)
            after(7, [2, 3], 1, many)

    def test_steps_changed_in_place_are_told_anew(self):
        for door, given in WITH_STEPS.items():
            with self.subTest(door.__name__):
                handed = with_one(given, None, None)
                steps = handed[1]
                for now in ([2, 3], [1, 3], [1, 5, 6], [2, 3], [3, 10]):
                    steps[:] = now
                    self.assertEqual(plain(door(*handed)), plain(door(*with_one(given, 1, now))))
                steps[:] = [3, 3]
                self.refused(door, handed, BadSteps)
                steps[:] = [2, 3]
                self.assertEqual(plain(door(*handed)), plain(door(*given)))

    def test_steps_that_tell_other_things_than_before(self):
        steps, tale = [2, 4], [("go", 0, 2)]
        self.assertEqual((far(6, steps), nearest(6, steps, 0)[1], how_many(6, steps, 0, 1, 1)), (None, None, 0))
        self.assertEqual((after(6, steps, 0, 1), every(6, steps).part, told(6, steps, 0, 1).part), ([2, 4], 2, 2))
        self.assertEqual((added(6, steps), twos(6, steps), Walker(6, steps, 0).go(0)), ((1, 2), [0, 2, 4], 2))
        self.assertIsInstance(judged(6, steps, 0, tale), Right)
        steps[0] = 1
        self.assertEqual((far(6, steps), nearest(6, steps, 0)[1], how_many(6, steps, 0, 1, 1)), (3, 1, 1))
        self.assertEqual((after(6, steps, 0, 1), every(6, steps).part, told(6, steps, 0, 1).way), ([1, 4], 3, [0]))
        self.assertEqual((added(6, steps), twos(6, steps), Walker(6, steps, 0).go(0)), ((2, 2), [2, 5], 1))
        self.assertIsInstance(judged(6, steps, 0, tale), Wrong)

    def test_a_way_changed_in_place_is_told_anew(self):
        way = [0, 1, 0]
        self.assertEqual(number_of(1, [1, 2], way), 2)
        way[0] = 1
        self.assertEqual(number_of(1, [1, 2], way), 6)
        way.append(1)
        self.assertEqual(number_of(1, [1, 2], way), 13)
        way[0] = 2
        self.refused(number_of, [1, [1, 2], way], BadWay)
        way.clear()
        self.assertEqual(number_of(1, [1, 2], way), 0)

    def test_numbers_that_are_told_are_whole_numbers(self):
        for ring, steps in EDGES:
            for door, (kinds, given) in DOORS.items():
                if kinds[1] == STEPS and NUMBER not in kinds and WAY not in kinds and door is not Walker:
                    handed = [ring, steps, *self.on_a_small_ring(kinds, given)[2:]]
                    self.assertLessEqual({member.__class__ for member in members(door(*handed))}, {int, None.__class__})
        for ring, steps, place, deeds in drawn_walks(5):
            walker = Walker(ring, steps, place)
            for deed in deeds:
                walker.back() if deed is None else walker.go(deed)
            self.assertLessEqual({member.__class__ for member in members(all_told(walker))}, {int, str})
        for answer in (way_by(7, [2, 3], 1, 0, 9, 36), number_of(7, [2, 3], [0, 1]), added(7, [2]), told_back(7, [4])):
            self.assertEqual({member.__class__ for member in members(answer)}, {int})

    def test_what_is_told_is_none_of_what_is_handed_in(self):
        way, steps = [0, 1], [1, 2]
        number = number_of(5, steps, way)
        self.assertIsNot(way_by(5, steps, 0, 3, 2, number), way)
        walker = Walker(5, steps, 0)
        walker.go(0)
        lists = (walker.gone(), walker.tale(), walker.stood(), twos(5, steps), told_back(5, twos(5, steps)))
        for answer in (nearest(5, steps, 0), after(5, steps, 0, 1), told(5, steps, 0, 3).way, *lists):
            answer.clear()
        self.assertEqual((way, steps), ([0, 1], [1, 2]))


if __name__ == "__main__":
    unittest.main()
