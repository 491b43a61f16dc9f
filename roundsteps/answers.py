"""The answers, each with what shows it: `shows` asks whether it holds, by the fields as they stand then."""

from roundsteps.rings import beyond_first, come_by, end_of, is_count, is_number, is_place, led_to


def copied(value):
    """A new list in the place of a list; all else as it is."""
    return list(value) if isinstance(value, list) else value


def is_part(value):
    """Whether it is a number from 2 on."""
    return is_number(value) and value >= 2


def goes_into_all(part, numbers):
    """Whether a part goes into each of the numbers."""
    return all(number % part == 0 for number in numbers)


def leads(ring, steps, one, other, way):
    """Whether it is a way from the one place to the other."""
    if not isinstance(way, list) or not all(is_count(steps, count) for count in way):
        return False
    return end_of(ring, steps, one, way) == other


def are_heights(ring, steps, heights):
    """Whether there is a number for each place, and none that a step brings up by more than one."""
    if not isinstance(heights, list) or len(heights) != ring:
        return False
    if not all(is_number(height) for height in heights):
        return False
    return all(
        heights[led_to(ring, place, step)] <= heights[place] + 1 for place in range(ring) for step in steps
    )


def trail_after(ring, steps, trail, deed):
    """The trail behind a deed, None if it can't be done.

    A trail is the places from the beginning on by the steps that are not taken back.
    """
    if deed[0] == "go":
        if not is_count(steps, deed[1]):
            return None
        return trail + [led_to(ring, trail[-1], steps[deed[1]])]
    if len(trail) == 1:
        return None
    return trail[:-1]


def first_wrong(ring, steps, place, tale):
    """The first line of a tale that can't come there, counted from 0, None if each can."""
    trail = [place]
    for line, deed in enumerate(tale):
        trail = trail_after(ring, steps, trail, deed)
        if trail is None or deed[-1] != trail[-1]:
            return line
    return None


class Answer:
    """One of two things that are told, never both."""


class Come(Answer):
    """A way of as few steps as can be, and heights that show that no fewer lead there."""

    def __init__(self, way, heights):
        self.way = copied(way)
        self.heights = copied(heights)

    def shows(self, ring, steps, one, other):
        """Whether the way leads from the one place to the other, and the heights show that none is shorter."""
        if not leads(ring, steps, one, other, self.way) or not are_heights(ring, steps, self.heights):
            return False
        return self.heights[one] == 0 and self.heights[other] == len(self.way)


class Never(Answer):
    """A number that goes into the ring's count and all steps, but not into how much farther on the other one is."""

    def __init__(self, part):
        self.part = part

    def shows(self, ring, steps, one, other):
        """Whether the part shows that no way leads from the one place to the other."""
        if not is_part(self.part) or not goes_into_all(self.part, [ring, *steps]):
            return False
        return (other - one) % self.part != 0


class Every(Answer):
    """The least count by which each place is come to, and a place that isn't by one fewer."""

    def __init__(self, many, late):
        self.many = many
        self.late = late

    def shows(self, ring, steps):
        """Whether each place is come to from place 0 by just so many steps, and the late one isn't by one fewer."""
        # The places come to never get fewer by a step more, and once they are
        # as many as before, they stay as many. So the least count is below the
        # ring's count, and a greater one need not be gone through.
        if not is_number(self.many) or not 0 <= self.many < ring:
            return False
        if self.many == 0:
            return ring == 1 and self.late is None
        if not is_place(ring, self.late) or come_by(ring, steps, 0, self.many - 1)[self.late]:
            return False
        return all(come_by(ring, steps, 0, self.many))


class Held(Answer):
    """A number that goes into the ring's count and into how much any step is greater than any other one."""

    def __init__(self, part):
        self.part = part

    def shows(self, ring, steps):
        """Whether the part shows that by no count every place is come to."""
        # What goes into two differences goes into theirs, too: those from the
        # first step are enough.
        return is_part(self.part) and goes_into_all(self.part, [ring, *beyond_first(steps)])


class Right(Answer):
    """A walker can have the tale."""

    def shows(self, ring, steps, place, tale):
        """Whether such a walker can have the tale from its beginning on."""
        return first_wrong(ring, steps, place, tale) is None


class Wrong(Answer):
    """The first line of the tale that can't come there."""

    def __init__(self, line):
        self.line = line

    def shows(self, ring, steps, place, tale):
        """Whether this line is the first one of the tale that can't come there."""
        return is_number(self.line) and first_wrong(ring, steps, place, tale) == self.line
