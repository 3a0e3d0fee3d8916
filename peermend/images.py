"""Images, states and groups ([3] to [5])."""

from peermend.errors import InvalidImage, NotState, UnequalSizes


def check_image(image):
    """Raise InvalidImage for the first index whose entry is not a record of the table."""
    size = len(image)
    for record, name in enumerate(image):
        if name < 0 or name >= size:
            raise InvalidImage(record)


def is_state(image):
    """Tell whether each record is named by the record that it names."""
    check_image(image)
    return all([image[name] == record for record, name in enumerate(image)])


def check_state(state):
    """Raise InvalidImage, then NotState for the first record whose name does not name it."""
    check_image(state)
    for record, name in enumerate(state):
        if state[name] != record:
            raise NotState(record)


def check_pair(first, second):
    """Check the first state whole, then the second one, then that their lengths are equal."""
    check_state(first)
    check_state(second)
    if len(first) != len(second):
        raise UnequalSizes()


def groups(image):
    """Return the groups as ascending lists, ordered by their least records."""
    check_image(image)
    found = {}
    for record, least in enumerate(_least_records(image)):
        # A group is met first at its least record, so the dict has the order of the groups.
        found.setdefault(least, []).append(record)
    return list(found.values())


def _least_records(image):
    """Return for each record the least record of its group."""
    least = list(range(len(image)))
    for record, name in enumerate(image):
        low = min(least[record], least[name])
        high = max(least[record], least[name])
        if low != high:
            least = [low if old == high else old for old in least]
    return least
