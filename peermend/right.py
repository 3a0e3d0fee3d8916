"""The right states of an image ([25] to [27])."""

from peermend.errors import InvalidNumber, UnequalSizes
from peermend.images import check_state
from peermend.pieces import census, torn_pieces
from peermend.repair import choices


def right_count(image):
    """Return the number of right states."""
    return _count(_open_choices(image))


def rights(image):
    """Yield the right states in their order."""
    found = _open_choices(image)
    for number in range(_count(found)):
        yield _state_at(image, found, number)


def right_at(image, number):
    """Return the right state with the number."""
    found = _open_choices(image)
    if number < 0 or number >= _count(found):
        raise InvalidNumber(number)
    return _state_at(image, found, number)


def is_right(image, state):
    """Tell whether the state is right for the image."""
    found = _open_choices(image)
    check_state(state)
    if len(image) != len(state):
        raise UnequalSizes()
    left = list(image)
    for ways in found:
        shown = [way for way in ways if _differing(state, way) == 0]
        if len(shown) == 0:
            return False
        left = _written(left, shown[0])
    # The torn pieces are as they may be; what is left of the image must not have changed.
    return left == state


def least_writes(image):
    """Return the least number of records at which a right state differs from the image."""
    found = _open_choices(image)
    return sum([min([_differing(image, way) for way in ways]) for ways in found])


def _open_choices(image):
    """Return for each torn piece what it may become, as lists of tuples (record, name)."""
    free = census(image)["free"]
    found = []
    for word, records in torn_pieces(image):
        ways = choices(word, records)
        # A claim may also be a move of its first record to a free one ([32]), and at neither
        # side of that move both records of the claim are free.
        found.append(ways[:1] if word == "claim" and free > 0 else ways)
    return found


def _count(found):
    """Return the number of ways to choose once from each list."""
    count = 1
    for ways in found:
        count = count * len(ways)
    return count


def _state_at(image, found, number):
    """Return the right state with the number, which is one of those that there are."""
    state = list(image)
    # The last piece counts least, so its choice is split off first.
    for ways in found[::-1]:
        number, at = divmod(number, len(ways))
        state = _written(state, ways[at])
    return state


def _written(image, way):
    """Return the image with the names of the way on its records."""
    names = list(image)
    for record, name in way:
        names[record] = name
    return names


def _differing(image, way):
    """Return at how many records the image shows another name than the way."""
    return len([record for record, name in way if image[record] != name])
