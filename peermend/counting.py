"""The numbers of images and of states, and the numbering of the repairable images ([8], [9])."""

from math import comb

from peermend.errors import InvalidNumber
from peermend.pieces import pieces

# What the records of a piece show, as places among its records in ascending order: all that
# there is for pieces of 1, 2, 3 and 4 records, each time in the order of [9].
_SHAPES = (
    ((0,),),
    ((0, 0), (1, 0), (1, 1)),
    (
        (0, 0, 1), (0, 2, 0), (1, 0, 0), (1, 0, 1), (1, 1, 0), (1, 2, 1), (1, 2, 2), (2, 0, 0),
        (2, 0, 2), (2, 1, 1), (2, 2, 0), (2, 2, 1),
    ),
    (
        (1, 0, 0, 1), (1, 0, 0, 2), (1, 0, 1, 0), (1, 0, 1, 2), (1, 0, 3, 0), (1, 0, 3, 1),
        (1, 2, 1, 0), (1, 2, 1, 2), (1, 2, 3, 0), (1, 2, 3, 2), (1, 3, 0, 1), (1, 3, 0, 2),
        (1, 3, 3, 1), (1, 3, 3, 2), (2, 0, 0, 1), (2, 0, 0, 2), (2, 0, 3, 1), (2, 0, 3, 2),
        (2, 2, 0, 0), (2, 2, 0, 1), (2, 2, 1, 0), (2, 2, 1, 1), (2, 3, 0, 0), (2, 3, 0, 2),
        (2, 3, 1, 0), (2, 3, 1, 1), (2, 3, 3, 1), (2, 3, 3, 2), (3, 0, 1, 0), (3, 0, 1, 2),
        (3, 0, 3, 0), (3, 0, 3, 2), (3, 2, 0, 0), (3, 2, 0, 1), (3, 2, 1, 1), (3, 2, 1, 2),
        (3, 2, 3, 0), (3, 2, 3, 2), (3, 3, 0, 0), (3, 3, 0, 1), (3, 3, 1, 0), (3, 3, 1, 1),
    ),
)


def count_images(size, *, torn=None):
    """Return the number of repairable images of a size, with so many torn pieces or with any."""
    rows = _torn_rows(size)
    if torn is None:
        # As many torn pieces as there is room for; below size 0 not even none of them.
        return sum([_entry(rows, size, many) for many in range(size // 2 + 1)])
    return _entry(rows, size, torn)


def count_states(size):
    """Return the number of states of a size."""
    return count_images(size, torn=0)


def image_number(image):
    """Return the number of repairable images of the same size that come before the image."""
    found = pieces(image)
    totals = _totals(len(image))
    left = list(range(len(image)))
    number = 0
    for _, records in found:
        group = sorted(records)
        number += _earlier(totals, image, left, group)
        left = [record for record in left if record not in group]
    return number


def image_at(size, number):
    """Return the repairable image of a size that has the number."""
    if number < 0 or number >= count_images(size):
        raise InvalidNumber(number)
    totals = _totals(size)
    image = [0] * size
    left = list(range(size))
    while left:
        group, shape, number = _first_piece(totals, left, number)
        for record, place in zip(group, shape):
            image[record] = group[place]
        left = [record for record in left if record not in group]
    return image


def _torn_rows(size):
    """Return for each size up to the given one the numbers of images with 0, 1, .. torn pieces."""
    rows = [[1]]
    for many in range(1, size + 1):
        # No torn piece has fewer than two records.
        rows.append([_recurrence(rows, many, torn) for torn in range(many // 2 + 1)])
    return rows


def _recurrence(rows, size, torn):
    """Return a(size, torn) of [8] from the rows of the smaller sizes."""
    alone = _entry(rows, size - 1, torn)
    twos = _entry(rows, size - 2, torn) + 2 * _entry(rows, size - 2, torn - 1)
    threes = 12 * comb(size - 1, 2) * _entry(rows, size - 3, torn - 1)
    fours = 42 * comb(size - 1, 3) * _entry(rows, size - 4, torn - 1)
    return alone + (size - 1) * twos + threes + fours


def _entry(rows, size, torn):
    """Return the number in the rows, which is 0 where they have none."""
    if size < 0 or torn < 0 or torn >= len(rows[size]):
        return 0
    return rows[size][torn]


def _totals(size):
    """Return the numbers of repairable images of all sizes up to the given one."""
    return [sum(row) for row in _torn_rows(size)]


def _begun(totals, size, length):
    """Return the number of images of a size whose first piece has `length` records."""
    ways = comb(size - 1, length - 1) * len(_SHAPES[length - 1])
    return ways * totals[size - length]


def _earlier(totals, image, left, group):
    """Return how many images of the records `left` have a first piece before that of the image.

    The group is that piece. What comes after the first piece is ordered like an image of
    the records that remain, so each way to begin stands for as many images as these have.
    """
    length = len(group)
    number = sum([_begun(totals, len(left), smaller) for smaller in range(1, length)])
    shapes = _SHAPES[length - 1]
    shape = tuple([group.index(image[record]) for record in group])
    places = [left.index(record) - 1 for record in group[1:]]
    ways = _choice_number(len(left) - 1, places) * len(shapes) + shapes.index(shape)
    return number + ways * totals[len(left) - length]


def _first_piece(totals, left, number):
    """Return the records of the first piece of the image with the number, what they show as
    places among them, and the number of the rest of the image."""
    length = 1
    while number >= _begun(totals, len(left), length):
        number -= _begun(totals, len(left), length)
        length += 1
    shapes = _SHAPES[length - 1]
    ways, rest = divmod(number, totals[len(left) - length])
    choice, at = divmod(ways, len(shapes))
    places = _choice_at(len(left) - 1, length - 1, choice)
    return [left[0]] + [left[place + 1] for place in places], shapes[at], rest


def _choice_number(many, places):
    """Return how many choices of as many out of `many` places come before the ascending one."""
    number = 0
    low = 0
    for at, place in enumerate(places):
        for lesser in range(low, place):
            number += comb(many - lesser - 1, len(places) - at - 1)
        low = place + 1
    return number


def _choice_at(many, length, number):
    """Return the ascending choice of `length` out of `many` places that has the number."""
    places = []
    place = 0
    while len(places) < length:
        ways = comb(many - place - 1, length - len(places) - 1)
        if number < ways:
            places.append(place)
        else:
            number -= ways
        place += 1
    return places
