"""What several tests share: odd values, rings to ask of, and own searches."""

import itertools
import random

HUGE = 10 ** 5000
ENDLESS = []
ENDLESS.append(ENDLESS)


class Odd:
    """A thing that answers no question."""

    def __eq__(self, other):
        raise AssertionError("compared")

    __hash__ = None
    __lt__ = __le__ = __gt__ = __ge__ = __ne__ = __len__ = __bool__ = __iter__ = __eq__


# Of these none is a number, and none is a list of steps.
NEITHER = (
    True, False, None, "", "1", "ab", b"", b"1", (), (1,), (1, 2), {}, {1: 2}, set(), {1},
    frozenset(), range(3), iter([1]), object(), int, len, Odd(), ENDLESS, [],
)


def small_rings():
    """Every ring to 12, each with all lists of one or two small steps and some of three."""
    for ring in range(1, 13):
        for many in (1, 2):
            for steps in itertools.combinations(range(1, 14), many):
                yield ring, list(steps)
        for steps in itertools.combinations(range(1, 7), 3):
            yield ring, list(steps)


def drawn_rings(many):
    """So many rings to 60 with steps to 60, the same each time; every other one with steps that share a part."""
    draw = random.Random(many)
    for at in range(many):
        ring = draw.randint(1, 60)
        part = draw.randint(2, 6) if at % 2 else 1
        ring = ring // part * part or part
        steps = draw.sample(range(part, 61, part), draw.randint(1, 6))
        yield ring, sorted(steps)


# Steps greater than the ring, alike on it, multiples of it; one alone; the least and the greatest of all.
EDGES = (
    (1, [1]), (1, [60]), (1, [1, 2, 3, 4, 5, 6]), (1, [55, 56, 57, 58, 59, 60]), (2, [1]), (2, [2]), (2, [1, 2]),
    (2, [59, 60]), (5, [5]), (5, [5, 10, 60]), (5, [3, 8, 13]), (5, [1, 2]), (6, [2, 4]), (6, [3]), (7, [60]),
    (9, [10, 19, 28]), (12, [24, 36]), (12, [1, 5, 9, 13, 20, 60]), (59, [60]), (60, [1]), (60, [60]), (60, [59]),
    (60, [1, 60]), (60, [1, 2]), (60, [30]), (60, [12, 15, 20]), (60, [10, 20, 30, 40, 50, 60]),
)


def moved(ring, places, steps):
    """The set of places that are come to from those of a set by one step."""
    return {(place + step) % ring for place in places for step in steps}


def fewest(ring, steps, one):
    """By how few steps each place is come to from the one; places that are not come to are left out."""
    told, now, many = {}, {one}, 0
    while now:
        told.update({place: many for place in now})
        now = moved(ring, now, steps) - set(told)
        many += 1
    return told


def come_by(ring, steps, many):
    """The places that are come to from place 0 by just so many steps."""
    come = {0}
    for _ in range(many):
        come = moved(ring, come, steps)
    return come


def drawn_walks(many):
    """So many rings with steps, a place and deeds: the counts of steps gone, None where the last is taken back."""
    draw = random.Random(many)
    for ring, steps in list(EDGES) + list(drawn_rings(many)):
        place, deeds, held = draw.randrange(ring), [], 0
        for _ in range(draw.randint(0, 60)):
            back = held > 0 and draw.random() < 0.4
            deeds.append(None if back else draw.randrange(len(steps)))
            held += -1 if back else 1
        yield ring, steps, place, deeds


def account(ring, steps, place, deeds):
    """What a walker tells behind these deeds: its place, gone, stood, around and tale."""
    gone, tale, at = [], [], place
    for deed in deeds:
        gone = gone[:-1] if deed is None else gone + [deed]
        at = (place + sum(steps[count] for count in gone)) % ring
        tale.append(("back", at) if deed is None else ("go", deed, at))
    stands = [place] + [line[-1] for line in tale]
    stood = [stands.count(other) for other in range(ring)]
    return at, gone, stood, sum(steps[count] for count in gone) // ring, tale


def all_told(walker):
    """What a walker tells, in the order of an account."""
    return walker.place(), walker.gone(), walker.stood(), walker.around(), walker.tale()
