"""Clashes, and which kinds are safe ([28] to [30])."""

from peermend.kinds import check_kind, sample_rows

SAFE_KINDS = (
    (),
    (("chain", 2, -1),),
    (("chain", 2, 1),),
    (("chain", 3, 0),),
    (("ring", 4, 0),),
)


class Clash:
    """Two updates, as tuples (before, after) of rows, and an image that either may have left."""

    def __init__(self, first, second, image):
        self.first = _own_rows(first)
        self.second = _own_rows(second)
        self.image = list(image)

    def holds(self):
        """Tell whether nobody who sees the image alone can make both updates whole."""
        if not (_is_torn(self.first, self.image) and _is_torn(self.second, self.image)):
            return False
        return all([row not in self.second for row in self.first])


def is_safe(*kinds):
    """Tell whether all the kinds are safe."""
    return first_unsafe(kinds) is None


def kind_clash(kind):
    """Return a clash for a kind that is not safe, and None for a safe one."""
    check_kind(kind)
    if kind in SAFE_KINDS:
        return None
    first = sample_rows(kind)
    if len(kind) == 1:
        return clash_between(first, _other_way(first))
    return clash_between(first, rest_after(first, list(range(kind[0][1]))))


def first_clash(*kinds):
    """Return the place of the first kind that is not safe, with a clash, or None."""
    number = first_unsafe(kinds)
    if number is None:
        return None
    return number, kind_clash(kinds[number])


def first_unsafe(kinds):
    """Return the place of the first kind that is not safe, or None."""
    for kind in kinds:
        check_kind(kind)
    for number, kind in enumerate(kinds):
        if kind not in SAFE_KINDS:
            return number
    return None


def clash_between(first, second):
    """Return the clash of two updates that have a name in common at each index."""
    image = []
    for old, new, one, other in zip(first[0], first[1], second[0], second[1]):
        image.append(old if old in (one, other) else new)
    return Clash(first, second, image)


def rest_after(update, records):
    """Return the update at rest in the row in which some records of an update are written.

    If they are the records of some of its parts, the row is settled, and it is torn at once.
    """
    before, after = update
    row = [after[record] if record in records else name for record, name in enumerate(before)]
    return row, row


def renamed(row, names):
    """Return what the row shows after each record x, at its place too, is called names[x]."""
    found = list(row)
    for record, name in enumerate(row):
        found[names[record]] = names[name]
    return found


def _own_rows(update):
    """Return copies of the two rows."""
    before, after = update
    return list(before), list(after)


def _is_torn(update, image):
    """Tell whether the image shows at each index one of the two names of the update."""
    before, after = update
    if len(before) != len(image) or len(after) != len(image):
        return False
    return all([name in (old, new) for name, old, new in zip(image, before, after)])


def _other_way(update):
    """Return an update of the same kind along another row or circle of the same records.

    A chain of 4 or more and a ring of 6 or more can be cut behind record 2, such that each
    record has a neighbour in its own stretch, or is an end itself, and can show that. With the
    first stretch turned round the records form another chain or ring, and no record can tell by
    what it shows which of the two it is in.
    """
    before, after = update
    names = [2, 1, 0] + list(range(3, len(before)))
    return renamed(before, names), renamed(after, names)
