"""All ways of just so many steps between two places, counted and numbered in order."""

from roundsteps.errors import BadCount, BadNumber, BadWay
from roundsteps.rings import check_ring, check_steps, check_told, end_of, farther_on, is_count, is_within, led_to

MOST_MANY = 200


def check_many(many):
    """Refuse what is no count of steps to go."""
    if not is_within(many, 0, MOST_MANY):
        raise BadCount("a count of steps is a number from 0 to 200")


def check_number(number, ways):
    """Refuse what is no number of one of so many ways."""
    if not is_within(number, 0, ways - 1):
        raise BadNumber("a number of a way is from 0 on, below how many ways there are")


def check_way(steps, way):
    """Refuse what is no list of counts of steps."""
    if not isinstance(way, list) or len(way) > MOST_MANY or not all(is_count(steps, count) for count in way):
        raise BadWay("a way is a list of at most 200 counts of steps")


def begun(ring, steps, row, rest):
    """For each count of a step, how many ways begin with it that lead `rest` farther on.

    The row holds how many ways, of one step fewer, lead how much farther on.
    """
    return [row[led_to(ring, rest, -step)] for step in steps]


def ways_on(ring, steps, many):
    """Rows for 0 to so many steps: in each, how many ways of just so many lead how much farther on.

    Where a way begins is all one: a row for each count of steps is enough.
    """
    row = [1] + [0] * (ring - 1)
    rows = [row]
    for at in range(many):
        row = [sum(begun(ring, steps, row, rest)) for rest in range(ring)]
        rows.append(row)
    return rows


def how_many(ring, steps, one, other, many):
    """How many ways of just so many steps lead from the one place to the other."""
    check_told(ring, steps, [one, other])
    check_many(many)
    return ways_on(ring, steps, many)[many][farther_on(ring, one, other)]


def way_by(ring, steps, one, other, many, number):
    """The way of a number among those of just so many steps from the one place to the other."""
    check_told(ring, steps, [one, other])
    check_many(many)
    rows = ways_on(ring, steps, many)
    rest = farther_on(ring, one, other)
    check_number(number, rows[many][rest])
    way = []
    for row in rows[:many][::-1]:
        ways = begun(ring, steps, row, rest)
        count = 0
        while number >= ways[count]:
            number -= ways[count]
            count += 1
        way.append(count)
        rest = led_to(ring, rest, -steps[count])
    return way


def number_of(ring, steps, way):
    """The number of a way among those of as many steps between its ends."""
    check_ring(ring)
    check_steps(steps)
    check_way(steps, way)
    rows = ways_on(ring, steps, len(way))
    rest = end_of(ring, steps, 0, way)
    number = 0
    for count, row in zip(way, rows[:-1][::-1]):
        # Those that begin with a step of a lower count all come ahead of it.
        number += sum(begun(ring, steps, row, rest)[:count])
        rest = led_to(ring, rest, -steps[count])
    return number
