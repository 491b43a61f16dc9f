"""Point 11: tales judged to the first line that can't come there."""

import random
import unittest

from roundsteps.answers import Right, Wrong
from roundsteps.errors import BadTale
from roundsteps.tales import judged
from roundsteps.walkers import Walker
from tests.helpers import HUGE, NEITHER, account, drawn_walks

RING, STEPS, PLACE = 5, [1, 3], 4
TALE = [("go", 0, 0), ("go", 1, 3), ("back", 0), ("back", 4), ("go", 1, 2), ("go", 1, 0)]


def deeds_that_can_be(steps, tale):
    """The deeds of a tale, ahead of the first one that can't be done: None for a step taken back."""
    deeds, held = [], 0
    for line in tale:
        back = line[0] == "back"
        if held == 0 if back else line[1] not in range(len(steps)):
            break
        deeds.append(None if back else line[1])
        held += -1 if back else 1
    return deeds


def first_bad(ring, steps, place, tale):
    """The first line that is not as an own account of the deeds has it, None if each is."""
    expected = account(ring, steps, place, deeds_that_can_be(steps, tale))[4]
    for at, line in enumerate(tale):
        if at == len(expected) or line != expected[at]:
            return at
    return None


class TaleTest(unittest.TestCase):
    def judge(self, ring, steps, place, tale, first):
        answer = judged(ring, steps, place, tale)
        self.assertIs(answer.__class__, Right if first is None else Wrong)
        self.assertIs(answer.shows(ring, steps, place, tale), True)
        if first is not None:
            self.assertEqual((answer.line.__class__, answer.line), (int, first))

    def judge_as_accounted(self, ring, steps, place, tale):
        first = first_bad(ring, steps, place, tale)
        self.judge(ring, steps, place, tale, first)
        return first


def drawn_tales(many):
    """Drawn walkers' tales with where they were had."""
    for ring, steps, place, deeds in drawn_walks(many):
        walker = Walker(ring, steps, place)
        for deed in deeds:
            walker.back() if deed is None else walker.go(deed)
        yield ring, steps, place, walker.tale()


class OfWalkers(TaleTest):
    def test_right_as_they_were_had(self):
        for ring, steps, place, tale in drawn_tales(60):
            with self.subTest((ring, steps, place)):
                self.judge(ring, steps, place, tale, None)

    def test_right_by_an_account_alone(self):
        for ring, steps, place, deeds in drawn_walks(61):
            tale = account(ring, steps, place, deeds)[4]
            for many in (0, 1, len(tale) // 2, len(tale)):
                self.judge(ring, steps, place, tale[:many], None)

    def test_one_line_left_out(self):
        wrong = 0
        for ring, steps, place, tale in drawn_tales(12):
            for at in range(len(tale)):
                wrong += self.judge_as_accounted(ring, steps, place, tale[:at] + tale[at + 1:]) is not None
        self.assertGreater(wrong, 100)

    def test_two_exchanged(self):
        draw, wrong = random.Random(11), 0
        for ring, steps, place, tale in drawn_tales(40):
            for _ in range(len(tale)):
                one, other = draw.randrange(len(tale)), draw.randrange(len(tale))
                changed = list(tale)
                changed[one], changed[other] = tale[other], tale[one]
                wrong += self.judge_as_accounted(ring, steps, place, changed) is not None
        self.assertGreater(wrong, 100)

    def test_another_line(self):
        draw, wrong = random.Random(12), 0
        for ring, steps, place, tale in drawn_tales(40):
            for at in range(len(tale)):
                other = draw.choice([("back", draw.randrange(ring)), ("go", draw.randrange(7), draw.randrange(ring))])
                changed = tale[:at] + [other] + tale[at + 1:]
                wrong += self.judge_as_accounted(ring, steps, place, changed) is not None
        self.assertGreater(wrong, 100)

    def test_a_line_put_in(self):
        wrong = 0
        for ring, steps, place, tale in drawn_tales(10):
            tale = tale[:50]
            for at in range(len(tale) + 1):
                for line in (("back", place), ("go", 0, (place + steps[0]) % ring)):
                    wrong += self.judge_as_accounted(ring, steps, place, tale[:at] + [line] + tale[at:]) is not None
        self.assertGreater(wrong, 100)

    def test_one_place_changed(self):
        for ring, steps, place, tale in drawn_tales(10):
            for at, line in enumerate(tale):
                for other in (-1, ring, line[-1] + 1, line[-1] - 1, line[-1] + ring, line[-1] - ring, HUGE, -HUGE):
                    changed = tale[:at] + [line[:-1] + (other,)] + tale[at + 1:]
                    # A changed place is seen on its own line, whatever comes behind it.
                    self.judge(ring, steps, place, changed, at)

    def test_one_count_changed(self):
        for ring, steps, place, tale in drawn_tales(10):
            for at in [at for at, line in enumerate(tale) if line[0] == "go"]:
                for other in (-1, -len(steps), len(steps), 60, HUGE, -HUGE, -HUGE + tale[at][1]):
                    changed = tale[:at] + [("go", other, tale[at][2])] + tale[at + 1:]
                    self.judge(ring, steps, place, changed, at)
                for other in range(len(steps)):
                    changed = tale[:at] + [("go", other, tale[at][2])] + tale[at + 1:]
                    self.judge_as_accounted(ring, steps, place, changed)

    def test_elsewhere(self):
        for ring, steps, place, tale in drawn_tales(30):
            for other in range(ring):
                self.judge_as_accounted(ring, steps, other, tale)
            self.judge_as_accounted(ring, steps[1:] or [1], place, tale)
            self.judge_as_accounted(min(ring + 1, 60), steps, place, tale)


class Lines(TaleTest):
    def test_the_empty_tale(self):
        for ring, steps, place in ((1, [1], 0), (5, [1, 3], 4), (60, [60], 59)):
            self.judge(ring, steps, place, [], None)

    def test_the_first_of_several(self):
        self.judge(RING, STEPS, PLACE, [("go", 0, 0), ("go", 1, 4), ("back", 3), ("go", 9, 9)], 1)
        self.judge(RING, STEPS, PLACE, [("go", 7, 7), ("back", 7)], 0)

    def test_a_later_line_that_would_come_behind_the_wrong_one(self):
        # The step is not that of the count, and what is told behind it goes on from the told place.
        self.judge(RING, STEPS, PLACE, [("go", 0, 2), ("back", 4)], 0)
        # Alike on the ring: the other count comes to the same place, too.
        self.judge(5, [3, 8], 0, [("go", 1, 3), ("go", 0, 1), ("back", 3), ("back", 0)], None)

    def test_nothing_to_take_back(self):
        for place in range(-1, 6):
            self.judge(RING, STEPS, PLACE, [("back", place)], 0)
            self.judge(RING, STEPS, PLACE, TALE[:4] + [("back", place)], 4)
        self.judge(1, [60], 0, [("go", 0, 0), ("back", 0), ("back", 0)], 2)

    def test_takes_back_the_last_one_that_is_not_taken_back(self):
        right = [("go", 0, 0), ("go", 1, 3), ("back", 0), ("go", 0, 1), ("back", 0), ("back", 4)]
        self.judge(RING, STEPS, PLACE, right, None)
        self.judge(RING, STEPS, PLACE, right[:4] + [("back", 3)], 4)
        self.judge(RING, STEPS, PLACE, right[:5] + [("back", 3)], 5)

    def test_counts_not_numbers_of_steps(self):
        self.judge(9, [1, 3], 0, [("go", 1, 3), ("go", 0, 4)], None)
        self.judge(9, [1, 3], 0, [("go", 1, 1)], 0)
        self.judge(9, [1, 3], 0, [("go", 3, 3)], 0)

    def test_any_numbers_on_any_line(self):
        for number in (-HUGE, -61, -1, 5, 6, 60, HUGE):
            for line in range(len(TALE)):
                changed = list(TALE)
                changed[line] = ("go", number, number)
                self.judge(RING, STEPS, PLACE, changed, line)
                changed[line] = ("back", number)
                self.judge(RING, STEPS, PLACE, changed, line)

    def test_sixty_lines_and_61(self):
        right = [("go", 0, (line + 1) % 5) for line in range(62)]
        self.judge(5, [1], 0, right[:60], None)
        self.judge(5, [1], 0, right[:59] + [("back", 3)], None)
        self.judge(5, [1], 0, right[:59] + [("back", 4)], 59)
        for tale in (right[:61], right, [("back", 0)] * 61, right[:60] + [None], [("go", 0, 0)] * 100000):
            with self.assertRaises(BadTale):
                judged(5, [1], 0, tale)

    def test_a_walker_s_own_longer_tale(self):
        walker = Walker(5, [1, 3], 0)
        for many in range(60):
            walker.go(many % 2)
        self.judge(5, [1, 3], 0, walker.tale(), None)
        walker.back()
        with self.assertRaises(BadTale):
            judged(5, [1, 3], 0, walker.tale())


class Wrongly(TaleTest):
    LINES = (
        ["go", 0, 0], ["back", 0], [], (), ("go",), ("back",), ("go", 0), ("go", 0, 0, 0), ("back", 0, 0),
        ("go", 0, 0, 0, 0), ("", 0), ("", 0, 0), ("stay", 0), ("stay", 0, 0), ("Go", 0, 0), ("BACK", 0), ("go ", 0, 0),
        (b"go", 0, 0),
        (b"back", 0), (0,), (0, 0), (0, 0, 0), (0, "go", 0), (0, "back"), (None, 0, 0), (["go"], 0, 0), ({}, 0),
        (("go",), 0, 0), (True, 0), ("go", ("go", 0, 0), 0), "go", "back", "go00", {"go": 0}, {"go", 0},
        range(3), ("go", "back", 0), (set(), 0, 0), ("goback", 0), ("g", "o", 0),
    ) + NEITHER + (0, 1, HUGE)

    def refused(self, tale):
        before = [id(line) for line in tale] if isinstance(tale, list) else None
        with self.assertRaises(BadTale) as caught:
            judged(RING, STEPS, PLACE, tale)
        self.assertIs(caught.exception.__class__, BadTale)
        if before is not None:
            self.assertEqual([id(line) for line in tale], before)

    def test_lines_that_are_none_wherever_they_stand(self):
        for at, line in enumerate(self.LINES):
            with self.subTest(at):
                self.refused([line])
                for many in range(len(TALE) + 1):
                    self.refused(TALE[:many] + [line] + TALE[many:])

    def test_other_kinds_among_the_numbers(self):
        for at, value in enumerate(NEITHER + ("0", [0], (0,))):
            for line in (("go", value, 0), ("go", 0, value), ("go", value, value), ("back", value)):
                with self.subTest(at):
                    self.refused([line])
                    self.refused(TALE + [line])
                    self.refused([line] + TALE)

    def test_behind_a_line_that_can_not_come_there(self):
        # What is no tale is refused, though a line ahead of it is wrong already.
        for line in (("back", True), ["back", 0], ("back", 0, 0), None):
            self.refused([("back", 0), line])
            self.refused([("go", 9, 9)] * 59 + [line])

    def test_true_is_no_count_and_no_place(self):
        self.judge(RING, STEPS, PLACE, [("go", 1, 2)], None)
        self.refused([("go", True, 2)])
        self.judge(RING, STEPS, PLACE, [("go", 0, 0)], None)
        self.refused([("go", False, 0)])
        self.refused([("go", 0, False)])

    def test_what_is_no_list(self):
        no_lists = tuple(value for value in NEITHER if not isinstance(value, list))
        no_tales = (0, 1, HUGE, tuple(TALE), {line: 1 for line in TALE}, set(TALE), "go", TALE[0])
        for at, tale in enumerate(no_lists + no_tales):
            with self.subTest(at):
                self.refused(tale)


class Anew(TaleTest):
    def test_a_tale_changed_in_place_is_judged_anew(self):
        tale = list(TALE)
        self.judge(RING, STEPS, PLACE, tale, None)
        tale[1] = ("go", 1, 4)
        self.judge(RING, STEPS, PLACE, tale, 1)
        tale[0] = ("back", 4)
        self.judge(RING, STEPS, PLACE, tale, 0)
        tale[:] = TALE[:3]
        self.judge(RING, STEPS, PLACE, tale, None)
        tale.append(["back", 4])
        with self.assertRaises(BadTale):
            judged(RING, STEPS, PLACE, tale)
        tale[3] = ("back", 4)
        self.judge(RING, STEPS, PLACE, tale, None)
        tale.clear()
        self.judge(RING, STEPS, PLACE, tale, None)

    def test_what_is_handed_in_stays_as_it_was(self):
        tale, steps = list(TALE), list(STEPS)
        judged(RING, steps, PLACE, tale)
        self.assertEqual((tale, steps), (TALE, STEPS))
        self.assertEqual([id(line) for line in tale], [id(line) for line in TALE])

    def test_an_answer_changed_afterwards_changes_nothing(self):
        first = judged(RING, STEPS, PLACE, [("back", 0)])
        first.line = 7
        self.judge(RING, STEPS, PLACE, [("back", 0)], 0)
        self.assertIs(first.shows(RING, STEPS, PLACE, [("back", 0)]), False)


if __name__ == "__main__":
    unittest.main()
