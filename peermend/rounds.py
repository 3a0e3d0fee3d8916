"""Rounds of changes that lead from one state to another ([36] to [40])."""

from peermend.changes import change_of_part, side_of, sides
from peermend.errors import Busy, InvalidChange
from peermend.images import check_pair, check_state
from peermend.kinds import parts
from peermend.updates import Update


def distance(before, after):
    """Return the least number of changes that lead from one state to the other."""
    return sum([_part_distance(part) for part in parts(before, after)])


def round_update(state, changes):
    """Return the update in which each of the changes goes to its other side."""
    check_state(state)
    after = list(state)
    seen = []
    for change in changes:
        side = side_of(state, change)
        if side is None:
            raise InvalidChange()
        for record, name in sides(change)[1 - side]:
            after[record] = name
            seen.append(record)
    for record in range(len(state)):
        if seen.count(record) > 1:
            raise Busy(record)
    return Update(state, after)


def follow(state, rounds):
    """Return the states before the first round and after each of the rounds."""
    check_state(state)
    found = [list(state)]
    for changes in rounds:
        found.append(round_update(found[-1], changes).after)
    return found


def plan(before, after):
    """Return at most two rounds that lead from one state to the other."""
    middle = _middle(before, after)
    rounds = [_changes_between(before, middle), _changes_between(middle, after)]
    return [changes for changes in rounds if len(changes) > 0]


def rounds_needed(before, after):
    """Return the number of rounds of a plan."""
    found = parts(before, after)
    if len(found) == 0:
        return 0
    return 1 if all([_part_distance(part) == 1 for part in found]) else 2


def is_plan(before, after, rounds):
    """Tell whether the rounds, none of them empty, lead from one state to the other."""
    check_pair(before, after)
    if any([len(changes) == 0 for changes in rounds]):
        return False
    try:
        return follow(before, rounds)[-1] == list(after)
    except (InvalidChange, Busy):
        return False


def _part_distance(part):
    """Return the least number of changes that make the update of a part, which is 1 exactly if
    it is a change itself."""
    shape, row = part
    # This is how much the part adds to the formula of [36]; what both states show alike adds
    # nothing to it.
    return len(row) // 2 - 1 if shape == "ring" else len(row) // 2


def _changes_between(first, second):
    """Return the changes that lead from one state to another whose update has no other parts."""
    return [change_of_part(part) for part in parts(first, second)]


def _middle(before, after):
    """Return the state between the two rounds of a plan.

    Number the pairs of `before` along a circle, and call their records even and odd in the
    order of the circle. In `before` each even record is with the odd one of the same number,
    in `after` with the odd one before that. In between it is with the odd one of the opposite
    number. From `before` this exchanges the numbers i and -i, to `after` the numbers i and
    1 - i, and each exchange of two numbers is one change. A circle of two pairs is one change
    and is not altered in the middle.
    """
    middle = list(before)
    for shape, row in parts(before, after):
        circle = row if shape == "ring" else _closed(before, row)
        for at in range(0, len(circle), 2):
            _pair(middle, circle[at], circle[(1 - at) % len(circle)])
    return middle


def _closed(before, row):
    """Return the records of a chain as a circle that begins with a pair of `before`.

    A free record is with None in it, which stands for records outside of the table.
    """
    circle = [None] + row if before[row[0]] == row[0] else list(row)
    if len(circle) % 2 == 1:
        return circle + [None]
    return circle if circle[0] is None else circle + [None, None]


def _pair(state, first, second):
    """Make a pair of two records; a record with None becomes free."""
    if first is not None:
        state[first] = first if second is None else second
    if second is not None:
        state[second] = second if first is None else first
