"""By how few steps a place is come to from a place, and what shows it."""

from roundsteps.answers import Come, Never
from roundsteps.rings import check_ring, check_steps, check_told, common_part, led_to


def next_row(ring, steps, near, row):
    """The places that are come to from those of a row, and by no fewer steps; `near` takes by how many."""
    fresh = []
    for place in row:
        for step in steps:
            other = led_to(ring, place, step)
            if near[other] is None:
                near[other] = near[place] + 1
                fresh.append(other)
    return fresh


def fewest(ring, steps, place):
    """For each place by how few steps it is come to from a place, None if by none."""
    near = [None] * ring
    near[place] = 0
    row = [place]
    while row:
        row = next_row(ring, steps, near, row)
    return near


def last_count(ring, steps, near, place):
    """The count of a step with which a way of as few steps as can be comes to a place."""
    fewer = near[place] - 1
    counts = [count for count, step in enumerate(steps) if near[led_to(ring, place, -step)] == fewer]
    return counts[0]


def way_to(ring, steps, near, place):
    """A way of as few steps as can be to a place that is come to, found from its end."""
    way = []
    while near[place] > 0:
        count = last_count(ring, steps, near, place)
        way.append(count)
        place = led_to(ring, place, -steps[count])
    return way[::-1]


def heights_of(near):
    """Heights that show how near each place is."""
    # From where no way leads, no step leads to where one does, nor back: there
    # any one height for all of them will do.
    return [0 if many is None else many for many in near]


def told(ring, steps, one, other):
    """A way of as few steps as can be with heights, or a part that shows that there is no way."""
    check_told(ring, steps, [one, other])
    near = fewest(ring, steps, one)
    if near[other] is None:
        return Never(common_part([ring, *steps]))
    return Come(way_to(ring, steps, near, other), heights_of(near))


def nearest(ring, steps, place):
    """For each place by how few steps it is come to from a place, None if by none."""
    check_told(ring, steps, [place])
    return fewest(ring, steps, place)


def far(ring, steps):
    """By how few steps the farthest place is come to, None if one is come to by none."""
    check_ring(ring)
    check_steps(steps)
    near = fewest(ring, steps, 0)
    return None if None in near else max(near)
