"""Rings, steps and places: what they are, where steps lead, and their refusals.

A step is told in two ways: by its number, how far it leads, or by its count,
where it stands in the list of steps, from 0 on. Ways and tales hold counts.
"""

from roundsteps.errors import BadPlace, BadRing, BadSteps

MOST_PLACES = 60
MOST_STEPS = 6
GREATEST_STEP = 60


def is_number(value):
    """Whether it is a whole number; True and False are none."""
    return isinstance(value, int) and not isinstance(value, bool)


def is_within(value, least, most):
    """Whether it is a number from the least to the most."""
    return is_number(value) and least <= value <= most


def is_ring(value):
    """Whether it tells a ring, by how many places it has."""
    return is_within(value, 1, MOST_PLACES)


def is_rising(numbers):
    """Whether each number is greater than the one ahead of it."""
    return all(low < high for low, high in zip(numbers, numbers[1:]))


def are_steps(value):
    """Whether it is a list of steps."""
    if not isinstance(value, list) or not 1 <= len(value) <= MOST_STEPS:
        return False
    # Only numbers can be compared, so what is rising is asked last.
    return all(is_within(step, 1, GREATEST_STEP) for step in value) and is_rising(value)


def is_place(ring, value):
    """Whether it is a place of the ring."""
    return is_within(value, 0, ring - 1)


def is_count(steps, value):
    """Whether it is the count of one of the steps."""
    return is_within(value, 0, len(steps) - 1)


# The refusals show nothing of what was handed in: it may be of any kind and
# size, and not everything can be written out.


def check_ring(ring):
    """Refuse what is no ring."""
    if not is_ring(ring):
        raise BadRing("a ring has 1 to 60 places")


def check_steps(steps):
    """Refuse what are no steps."""
    if not are_steps(steps):
        raise BadSteps("steps are a list of 1 to 6 unlike numbers, rising, 1 to 60")


def check_place(ring, place):
    """Refuse what is no place of the ring."""
    if not is_place(ring, place):
        raise BadPlace("a place is a number from 0 on, below the ring's count")


def check_told(ring, steps, places):
    """Refuse a ring, then steps, then a list of places, in the order in which the refusals are told."""
    check_ring(ring)
    check_steps(steps)
    for place in places:
        check_place(ring, place)


def led_to(ring, place, step):
    """The place to which a step, told by its number, leads from a place."""
    return (place + step) % ring


def farther_on(ring, one, other):
    """How much farther on the other place is than the one."""
    return (other - one) % ring


def beyond_first(steps):
    """How much each step is greater than the first one."""
    return [step - steps[0] for step in steps]


def end_of(ring, steps, place, way):
    """The place to which a way leads from a place."""
    for count in way:
        place = led_to(ring, place, steps[count])
    return place


def one_more(ring, steps, come):
    """What is come to by one more step: `come` and what is told hold a truth for each place."""
    return [any(come[led_to(ring, place, -step)] for step in steps) for place in range(ring)]


def come_by(ring, steps, place, many):
    """For each place, whether it is come to from a place by just so many steps.

    They are gone one after another, so this is for counts of no great size.
    """
    come = [at == place for at in range(ring)]
    for at in range(many):
        come = one_more(ring, steps, come)
    return come


def common_part(numbers):
    """The greatest number that goes into all of the numbers."""
    part = 0
    for number in numbers:
        rest = number
        while rest != 0:
            part, rest = rest, part % rest
    return part
