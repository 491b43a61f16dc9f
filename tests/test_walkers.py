"""Point 10, and of point 11 what a tale is: a walker, against an own account of its deeds."""

import inspect
import unittest

from roundsteps.errors import BadPlace, BadRing, BadStep, BadSteps, Nothing
from roundsteps.walkers import Walker
from tests.helpers import EDGES, HUGE, NEITHER, account, all_told, drawn_walks

METHODS = {"go": ["step"], "back": [], "place": [], "gone": [], "stood": [], "around": [], "tale": []}


def do(walker, deed):
    """One deed, a count of a step or None for one taken back; the place that is told."""
    return walker.back() if deed is None else walker.go(deed)


class WalkerTest(unittest.TestCase):
    def refused(self, refusal, act, *handed):
        try:
            act(*handed)
        except ValueError as error:
            self.assertIs(error.__class__, refusal)
        else:
            self.fail("not refused")


class Interface(WalkerTest):
    def test_each_method_stands_in_the_class_itself(self):
        for name, arguments in METHODS.items():
            self.assertIn(name, vars(Walker))
            self.assertEqual(list(inspect.signature(vars(Walker)[name]).parameters)[1:], arguments)
        self.assertEqual(list(inspect.signature(Walker).parameters), ["ring", "steps", "place"])

    def test_refused_before_it_stands_anywhere(self):
        self.refused(BadRing, Walker, 61, [], 61)
        self.refused(BadSteps, Walker, 5, [1, 2, 3, 4, 5, 6, 7], 5)
        self.refused(BadPlace, Walker, 5, [1], 5)


class Deeds(WalkerTest):
    def against_an_account(self, ring, steps, place, deeds):
        walker = Walker(ring, steps, place)
        self.assertEqual(all_told(walker), account(ring, steps, place, []))
        for many, deed in enumerate(deeds):
            expected = account(ring, steps, place, deeds[:many + 1])
            self.assertEqual(do(walker, deed), expected[0])
            self.assertEqual(all_told(walker), expected)

    def test_drawn_deeds(self):
        for ring, steps, place, deeds in drawn_walks(60):
            with self.subTest((ring, steps, place)):
                self.against_an_account(ring, steps, place, deeds)

    def test_the_beginning(self):
        for ring, steps in EDGES:
            for place in {0, ring // 2, ring - 1}:
                walker = Walker(ring, steps, place)
                self.assertEqual(walker.place(), place)
                self.assertEqual(walker.gone(), [])
                self.assertEqual(walker.stood(), [int(other == place) for other in range(ring)])
                self.assertEqual(walker.around(), 0)
                self.assertEqual(walker.tale(), [])

    def test_one_walk(self):
        walker = Walker(5, [1, 3], 4)
        self.assertEqual([walker.go(0), walker.go(1), walker.back(), walker.go(1)], [0, 3, 0, 3])
        self.assertEqual(walker.place(), 3)
        self.assertEqual(walker.gone(), [0, 1])
        self.assertEqual(walker.stood(), [2, 0, 0, 2, 1])
        self.assertEqual(walker.around(), 0)
        self.assertEqual(walker.tale(), [("go", 0, 0), ("go", 1, 3), ("back", 0), ("go", 1, 3)])

    def test_a_step_gone_behind_one_taken_back(self):
        walker = Walker(10, [1, 3, 7], 0)
        for deed in (0, 1, None, 2, None, None, 2, 1, None):
            do(walker, deed)
        self.assertEqual((walker.place(), walker.gone()), (7, [2]))
        self.assertEqual(walker.back(), 0)
        self.refused(Nothing, walker.back)
        self.assertEqual(walker.go(1), 3)
        self.assertEqual(walker.gone(), [1])

    def test_all_taken_back(self):
        walker = Walker(7, [2, 60], 3)
        places = [walker.place()] + [walker.go(count) for count in (1, 0, 1, 1, 0)]
        self.assertEqual([walker.back() for _ in range(5)], places[-2::-1])
        self.assertEqual((walker.gone(), walker.around(), walker.place()), ([], 0, 3))
        self.assertEqual(sum(walker.stood()), 11)

    def test_around(self):
        walker = Walker(5, [2, 60], 4)
        # The sum of the steps counts, not how often the first place is passed.
        self.assertEqual((walker.go(0), walker.around()), (1, 0))
        self.assertEqual((walker.go(0), walker.around()), (3, 0))
        self.assertEqual((walker.go(0), walker.around()), (0, 1))
        self.assertEqual((walker.go(1), walker.around()), (0, 13))
        self.assertEqual((walker.back(), walker.around()), (0, 1))
        self.assertEqual((walker.back(), walker.around()), (3, 0))
        walker = Walker(1, [60], 0)
        self.assertEqual((walker.go(0), walker.around()), (0, 60))
        walker = Walker(60, [60], 7)
        self.assertEqual((walker.go(0), walker.around()), (7, 1))

    def test_stood_counts_deeds_that_lead_to_the_same_place(self):
        walker = Walker(3, [3], 1)
        walker.go(0)
        walker.go(0)
        walker.back()
        self.assertEqual(walker.stood(), [0, 4, 0])

    def test_many_deeds(self):
        walker = Walker(60, [1, 7], 0)
        for at in range(3000):
            walker.go(at % 2)
        for at in range(1000):
            walker.back()
        self.assertEqual((len(walker.tale()), len(walker.gone()), sum(walker.stood())), (4000, 2000, 4001))
        self.assertEqual((walker.place(), walker.around()), (8000 % 60, 8000 // 60))

    def test_what_is_told_is_of_the_told_kinds(self):
        walker = Walker(5, [1, 3], 4)
        self.assertIs(walker.go(1).__class__, int)
        self.assertIs(walker.back().__class__, int)
        self.assertIs(walker.place().__class__, int)
        self.assertIs(walker.around().__class__, int)
        for told in (walker.gone(), walker.stood(), walker.tale()):
            self.assertIs(told.__class__, list)
        self.assertEqual([line.__class__ for line in walker.tale()], [tuple, tuple])


class Refusals(WalkerTest):
    def walkers(self):
        """Walkers at their beginning, behind some deeds, and with all taken back, on several rings."""
        for ring, steps, place in ((5, [1, 3], 4), (1, [60], 0), (60, [1, 2, 3, 4, 5, 6], 59), (7, [7], 2)):
            for deeds in ([], [0], [0, len(steps) - 1, None], [0, None], [0, 0, None, None]):
                walker = Walker(ring, steps, place)
                for deed in deeds:
                    do(walker, deed)
                yield walker, len(steps)

    def test_what_is_no_count_of_a_step(self):
        for walker, many in self.walkers():
            before = all_told(walker)
            for at, step in enumerate(NEITHER + (-1, -many, many, many + 1, 60, HUGE, -HUGE, "0", [0], (0,))):
                with self.subTest(at):
                    self.refused(BadStep, walker.go, step)
                    self.assertEqual(all_told(walker), before)
            for count in range(many):
                walker.go(count)

    def test_counts_not_numbers_of_steps(self):
        walker = Walker(10, [3, 5], 0)
        for step in (2, 3, 5):
            self.refused(BadStep, walker.go, step)
        self.assertEqual((walker.go(0), walker.go(1)), (3, 8))

    def test_nothing_to_take_back(self):
        for walker, _ in self.walkers():
            while walker.gone():
                walker.back()
            before = all_told(walker)
            self.refused(Nothing, walker.back)
            self.refused(Nothing, walker.back)
            self.assertEqual(all_told(walker), before)
            walker.go(0)
            walker.back()
            self.refused(Nothing, walker.back)

    def test_what_was_refused_leaves_no_trace_later(self):
        walker, other = Walker(5, [1, 3], 4), Walker(5, [1, 3], 4)
        for deed in (0, 1, None, 1, None, None, 1):
            self.refused(BadStep, walker.go, 2)
            if not walker.gone():
                self.refused(Nothing, walker.back)
            self.assertEqual(do(walker, deed), do(other, deed))
            self.assertEqual(all_told(walker), all_told(other))


class Apart(WalkerTest):
    def test_two_walkers_by_turns(self):
        walks = list(drawn_walks(11))
        for one, other in zip(walks, walks[1:]):
            walkers = [Walker(*told[:3]) for told in (one, other)]
            for many in range(max(len(one[3]), len(other[3]))):
                for walker, (ring, steps, place, deeds) in zip(walkers, (one, other)):
                    if many < len(deeds):
                        do(walker, deeds[many])
                    self.assertEqual(all_told(walker), account(ring, steps, place, deeds[:many + 1]))

    def test_two_walkers_of_one_list_of_steps(self):
        steps = [1, 3]
        one, other = Walker(5, steps, 4), Walker(5, steps, 4)
        one.go(1)
        self.assertEqual(all_told(other), account(5, [1, 3], 4, []))
        other.go(0)
        self.assertEqual(all_told(one), account(5, [1, 3], 4, [1]))

    def test_what_was_told_earlier_stays_as_it_was(self):
        walker = Walker(5, [1, 3], 4)
        told, expected = [all_told(walker)], [account(5, [1, 3], 4, [])]
        deeds = [0, 1, None, 1, 1, None, None, None, 0]
        for many, deed in enumerate(deeds):
            do(walker, deed)
            told.append(all_told(walker))
            expected.append(account(5, [1, 3], 4, deeds[:many + 1]))
        self.assertEqual(told, expected)

    def test_told_lists_changed_afterwards_change_nothing(self):
        for change in (list.clear, list.reverse, lambda told: told.append(7), lambda told: told.__setitem__(0, 9)):
            walker = Walker(5, [1, 3], 4)
            walker.go(0)
            walker.go(1)
            for tell in (walker.gone, walker.stood, walker.tale):
                change(tell())
                self.assertIsNot(tell(), tell())
            self.assertEqual(all_told(walker), account(5, [1, 3], 4, [0, 1]))
            walker.back()
            walker.go(0)
            self.assertEqual(all_told(walker), account(5, [1, 3], 4, [0, 1, None, 0]))

    def test_steps_changed_afterwards_change_nothing_of_it(self):
        for now in ([2, 4], [1], [], [1, 3, 4], [None, "3"]):
            steps = [1, 3]
            walker = Walker(5, steps, 4)
            walker.go(1)
            steps[:] = now
            self.assertEqual(all_told(walker), account(5, [1, 3], 4, [1]))
            self.refused(BadStep, walker.go, 2)
            walker.go(1)
            self.assertEqual(all_told(walker), account(5, [1, 3], 4, [1, 1]))
            walker.back()
            self.assertEqual(all_told(walker), account(5, [1, 3], 4, [1, 1, None]))
            self.assertEqual(steps, now)

    def test_steps_handed_in_stay_as_they_were(self):
        steps = [1, 3]
        walker = Walker(5, steps, 4)
        for deed in (0, 1, None, None):
            do(walker, deed)
        self.assertEqual(steps, [1, 3])


if __name__ == "__main__":
    unittest.main()
