"""A walker on a ring: it goes steps, takes them back, and tells of it."""

from roundsteps.errors import BadStep, Nothing
from roundsteps.rings import check_told, is_count, led_to


class Walker:
    """It stands at a place of a ring, with steps; each is told by its count."""

    def __init__(self, ring, steps, place):
        check_told(ring, steps, [place])
        self.ring = ring
        self.steps = list(steps)
        self.at = place
        self.counts = []
        self.often = [0] * ring
        self.often[place] = 1
        self.deeds = []

    def move(self, step):
        """Stand so much farther on; below 0 it is so much back."""
        self.at = led_to(self.ring, self.at, step)
        self.often[self.at] += 1

    def go(self, step):
        """Go the step of this count; the place come to is told."""
        if not is_count(self.steps, step):
            raise BadStep("a step is gone by its count, from 0 on, below how many steps there are")
        self.move(self.steps[step])
        self.counts.append(step)
        self.deeds.append(("go", step, self.at))
        return self.at

    def back(self):
        """Take back the last step that isn't taken back; the place come to is told."""
        if not self.counts:
            raise Nothing("there is no step to take back")
        self.move(-self.steps[self.counts.pop()])
        self.deeds.append(("back", self.at))
        return self.at

    def place(self):
        """The place where it stands."""
        return self.at

    def gone(self):
        """The counts of the steps gone and not taken back, in turn."""
        return list(self.counts)

    def stood(self):
        """For each place how often it stood there, at the beginning and behind each deed."""
        return list(self.often)

    def around(self):
        """How many times the steps gone and not taken back together go around."""
        return sum(self.steps[count] for count in self.counts) // self.ring

    def tale(self):
        """What it did, in turn, each deed with the place come to."""
        return list(self.deeds)
