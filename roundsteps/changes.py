"""Which added step brings all nearest, and steps told back from what two of them come to."""

from roundsteps.errors import BadPlaces, BadRing, BadSteps
from roundsteps.rings import GREATEST_STEP, MOST_STEPS, check_ring, check_steps, is_place, is_rising, is_within
from roundsteps.sets import after
from roundsteps.ways import far

MOST_TOLD_BACK = 8


def check_room(steps):
    """Refuse steps to which none can be added."""
    if len(steps) >= MOST_STEPS:
        raise BadSteps("a step is added to at most 5 steps")


def check_small_ring(ring):
    """Refuse what is no ring of which steps are told back."""
    if not is_within(ring, 1, MOST_TOLD_BACK):
        raise BadRing("steps are told back of a ring of 1 to 8 places")


def check_places(ring, places):
    """Refuse what is no rising list of places of the ring; one of none is such a list."""
    # Only numbers can be compared, so what is rising is asked last.
    if not isinstance(places, list) or not all(is_place(ring, place) for place in places) or not is_rising(places):
        raise BadPlaces("places are a rising list of places of the ring")


def added(ring, steps):
    """The least added step that makes the ring least far, and how far it is then."""
    check_ring(ring)
    check_steps(steps)
    check_room(steps)
    fresh = [step for step in range(1, GREATEST_STEP + 1) if step not in steps]
    fars = [far(ring, sorted([*steps, step])) for step in fresh]
    # There is a least one: if 1 is not among the steps, it is among the added ones.
    least = min(many for many in fars if many is not None)
    return fresh[fars.index(least)], least


def twos(ring, steps):
    """The places that are come to from place 0 by just two steps, one twice, too, rising."""
    return after(ring, steps, 0, 2)


def next_steps(steps, greatest):
    """The list of steps that comes next in order, none beyond the greatest, None behind the last one."""
    if steps[-1] < greatest and len(steps) < MOST_STEPS:
        return [*steps, steps[-1] + 1]
    if steps[-1] == greatest:
        steps = steps[:-1]
    return [*steps[:-1], steps[-1] + 1] if steps else None


def told_back(ring, places):
    """The first list of steps, none greater than the ring's count, whose twos these places are, None if none is."""
    check_small_ring(ring)
    check_places(ring, places)
    steps = [1]
    while steps is not None and twos(ring, steps) != places:
        steps = next_steps(steps, ring)
    return steps
