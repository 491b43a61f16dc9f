"""What is come to by just so many steps, and the first count by which every place is."""

from roundsteps.answers import Every, Held
from roundsteps.errors import BadCount
from roundsteps.rings import (
    beyond_first,
    check_ring,
    check_steps,
    check_told,
    come_by,
    common_part,
    is_number,
    one_more,
)


def check_any_many(many):
    """Refuse what is no count of steps, of whatever size."""
    if not is_number(many) or many < 0:
        raise BadCount("a count of steps is a number from 0 on")


def after(ring, steps, place, many):
    """The places that are come to from a place by just so many steps, rising."""
    check_told(ring, steps, [place])
    check_any_many(many)
    # Each step is the first one and what it is beyond it. All the first ones
    # are gone at once; what is beyond them may be nothing, so one more of it
    # only adds places, and when it adds none, no further one does. So as many
    # as the ring has places are enough, however great the count.
    beginning = (place + many * steps[0]) % ring
    come = come_by(ring, beyond_first(steps), beginning, min(many, ring))
    return [at for at in range(ring) if come[at]]


def first_every(ring, steps):
    """The least count by which each place is come to, and one that is late; asked only where there is such a count."""
    come = come_by(ring, steps, 0, 0)
    many = 0
    late = None
    while not all(come):
        late = come.index(False)
        come = one_more(ring, steps, come)
        many += 1
    return Every(many, late)


def every(ring, steps):
    """The least count by which each place is come to from place 0, or a part that shows that there is none."""
    check_ring(ring)
    check_steps(steps)
    part = common_part([ring, *beyond_first(steps)])
    if part > 1:
        return Held(part)
    return first_every(ring, steps)
