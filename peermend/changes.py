"""Changes: ties, moves and crosses, and the states ([17] to [19])."""

from peermend.errors import InvalidChange
from peermend.images import check_image, check_state
from peermend.kinds import parts
from peermend.updates import Update

# What the records of a change show at side 0 and at side 1, as places in their order.
_SIDES = {
    "tie": ((0, 1), (1, 0)),
    "move": ((1, 0, 2), (2, 1, 0)),
    "cross": ((1, 0, 3, 2), (3, 2, 1, 0)),
}


def check_change(change, size):
    """Raise InvalidChange unless the change has a valid form in a table of the size."""
    word, records = change
    if word not in _SIDES or len(records) != len(_SIDES[word][0]):
        raise InvalidChange()
    if len(set(records)) != len(records) or not _in_order(word, records):
        raise InvalidChange()
    if min(records) < 0 or max(records) >= size:
        raise InvalidChange()


def sides(change):
    """Return what the records of the change show at side 0 and at side 1."""
    word, records = change
    first, second = _SIDES[word]
    return _shown(records, first), _shown(records, second)


def side_of(image, change):
    """Return the side that the image shows on the records of the change, or None."""
    check_image(image)
    check_change(change, len(image))
    for number, side in enumerate(sides(change)):
        if all([image[record] == name for record, name in side]):
            return number
    return None


def update_by(state, change):
    """Return the update from the state to the one in which the change is at its other side."""
    check_state(state)
    number = side_of(state, change)
    if number is None:
        raise InvalidChange()
    after = list(state)
    for record, name in sides(change)[1 - number]:
        after[record] = name
    return Update(state, after)


def change_of(update):
    """Return the change whose two sides are the two states of the update, or None."""
    found = parts(update.before, update.after)
    if len(found) != 1:
        return None
    return change_of_part(found[0])


def change_of_part(part):
    """Return the change that is the update of the part alone, or None."""
    shape, row = part
    if shape == "chain" and len(row) == 2:
        return tie_of(row)
    if shape == "chain" and len(row) == 3:
        return move_of(row[1], row[0], row[2])
    if shape == "ring" and len(row) == 4:
        return cross_of(row)
    return None


def tie_of(records):
    """Return the tie of two records."""
    return "tie", tuple(sorted(records))


def move_of(a, b, c):
    """Return the move of a between b and c."""
    return "move", (a, min(b, c), max(b, c))


def cross_of(circle):
    """Return the cross of four records whose sides pair neighbours in the circle."""
    at = circle.index(min(circle))
    a, b, c, d = circle[at:] + circle[:at]
    return "cross", (a, min(b, d), c, max(b, d))


def changes_from(state):
    """Yield all changes such that the state is at one of their sides, ascending."""
    check_state(state)
    free = [record for record, name in enumerate(state) if name == record]
    pairs = [(record, name) for record, name in enumerate(state) if record < name]
    found = [("tie", (a, b)) for a in free for b in free if a < b]
    found.extend([("tie", pair) for pair in pairs])
    for a, b in pairs:
        found.extend([move_of(a, b, c) for c in free])
        found.extend([move_of(b, a, c) for c in free])
        later = [pair for pair in pairs if pair[0] > a]
        found.extend([cross_of([a, b, c, d]) for c, d in later])
        found.extend([cross_of([a, b, d, c]) for c, d in later])
    for change in sorted(found):
        yield change


def states(size):
    """Yield all states of a size, ascending; there is none of a size below 0."""
    if size < 0:
        return
    names = [None] * size
    for state in _completed(names):
        yield state


def _in_order(word, records):
    """Tell whether the records, which are as many as the word asks for, stand in its order."""
    if word == "tie":
        return records[0] < records[1]
    if word == "move":
        return records[1] < records[2]
    return records[0] == min(records) and records[1] < records[3]


def _shown(records, places):
    """Return the tuples (record, name), ascending."""
    return sorted([(record, records[place]) for record, place in zip(records, places)])


def _completed(names):
    """Yield all states that show the names where they are not None, ascending."""
    if None not in names:
        yield names
        return
    record = names.index(None)
    for other in range(record, len(names)):
        if names[other] is None:
            tried = list(names)
            tried[record] = other
            tried[other] = record
            for state in _completed(tried):
                yield state
