"""Tales of a walker, judged to the first line that can't come there."""

from roundsteps.answers import Right, Wrong, first_wrong
from roundsteps.errors import BadTale
from roundsteps.rings import check_told, is_number

MOST_LINES = 60
# How many numbers stand behind the word of a deed.
NUMBERS = {"go": 2, "back": 1}


def is_deed(value):
    """Whether it is a tuple of a deed's word and as many numbers, of whatever size."""
    # What is no text may not be asked whether it is one of the words.
    if not isinstance(value, tuple) or not value or not isinstance(value[0], str):
        return False
    return NUMBERS.get(value[0]) == len(value) - 1 and all(is_number(number) for number in value[1:])


def check_tale(tale):
    """Refuse what is no tale."""
    if not isinstance(tale, list) or len(tale) > MOST_LINES or not all(is_deed(deed) for deed in tale):
        raise BadTale("a tale is a list of at most 60 deeds")


def judged(ring, steps, place, tale):
    """Whether a walker can have the tale from its beginning on, or the first line that can't come there."""
    check_told(ring, steps, [place])
    check_tale(tale)
    line = first_wrong(ring, steps, place, tale)
    return Right() if line is None else Wrong(line)
