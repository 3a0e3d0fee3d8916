"""Readings: which updates may be torn in an image ([31] to [35])."""

from math import comb, perm

from peermend.changes import cross_of, move_of, side_of, tie_of
from peermend.errors import InvalidChange, InvalidNumber
from peermend.pieces import is_repairable, pieces, torn_pieces
from peermend.right import is_right


def count_readings(image):
    """Return the number of readings of an image."""
    return _count(_claims(torn_pieces(image)), len(_free_records(image)))


def readings(image):
    """Yield the readings in their order."""
    torn = torn_pieces(image)
    free = _free_records(image)
    for number in range(_count(_claims(torn), len(free))):
        yield _reading(torn, free, number)


def reading_at(image, number):
    """Return the reading with the number."""
    count = count_readings(image)
    if number < 0 or number >= count:
        raise InvalidNumber(number)
    return _reading(torn_pieces(image), _free_records(image), number)


def reading_number(image, changes):
    """Return the number of a reading, whose changes may be in any order."""
    number = _number(torn_pieces(image), _free_records(image), changes)
    if number is None:
        raise InvalidChange()
    return number


def is_reading(image, changes):
    """Tell whether the changes, in any order, are a reading of the image."""
    if not is_repairable(image):
        return False
    return _number(torn_pieces(image), _free_records(image), changes) is not None


def involvement(image):
    """Return for each record whether it is "always", "sometimes" or "never" in a reading."""
    words = ["never"] * len(image)
    for _, records in torn_pieces(image):
        for record in records:
            words[record] = "always"
    if _claims(torn_pieces(image)) > 0:
        for record in _free_records(image):
            words[record] = "sometimes"
    return words


def objection(image, state):
    """Return a reading by which the state is not right for the image, or None if it is right."""
    if is_right(image, state):
        return None
    torn = torn_pieces(image)
    changes = _reading(torn, [], 0)
    if _objects(changes, image, state):
        return changes
    # All that is wrong then is a claim whose records are both free, and a move of its first
    # record to a free one is at neither of its sides in such a state.
    free = _free_records(image)
    for at, (word, records) in enumerate(torn):
        if word == "claim" and state[records[0]] == records[0]:
            changes[at] = move_of(records[0], records[1], free[0])
            break
    return changes


def change_of_piece(piece):
    """Return the change that a reading has for a torn piece, and for a claim the tie."""
    word, records = piece
    if word == "claim":
        return tie_of(records)
    if word in ("hook", "relay"):
        c, a, b = records
        return move_of(a, b, c)
    return cross_of(records)


def _free_records(image):
    """Return the free records of a repairable image, ascending."""
    return [records[0] for word, records in pieces(image) if word == "free"]


def _claims(torn):
    """Return how many of the torn pieces are claims."""
    return len([word for word, _ in torn if word == "claim"])


def _count(claims, free):
    """Return in how many ways some of the claims can take a free record each, no two the same."""
    return sum([comb(claims, moved) * perm(free, moved) for moved in range(claims + 1)])


def _reading(torn, free, number):
    """Return the reading with the number, which is one of those that there are."""
    claims = _claims(torn)
    left = list(free)
    changes = []
    for word, records in torn:
        change = change_of_piece((word, records))
        if word == "claim":
            claims -= 1
            ties = _count(claims, len(left))
            if number >= ties:
                at, number = divmod(number - ties, _count(claims, len(left) - 1))
                change = move_of(records[0], records[1], left.pop(at))
        changes.append(change)
    return changes


def _number(torn, free, changes):
    """Return the number of the reading, or None if the changes are no reading."""
    if len(changes) != len(torn):
        return None
    claims = _claims(torn)
    left = list(free)
    number = 0
    # As many changes as pieces, and one of them for each piece: so there are no others.
    for word, records in torn:
        if word == "claim":
            claims -= 1
        if change_of_piece((word, records)) in changes:
            continue
        if word != "claim":
            return None
        moves = [move_of(records[0], records[1], record) for record in left]
        taken = [at for at, move in enumerate(moves) if move in changes]
        if len(taken) == 0:
            return None
        number += _count(claims, len(left)) + taken[0] * _count(claims, len(left) - 1)
        left.pop(taken[0])
    return number


def _objects(changes, image, state):
    """Tell whether the state is against the reading: torn in a change, or altered elsewhere."""
    if any([side_of(state, change) is None for change in changes]):
        return True
    inside = [record for _, records in changes for record in records]
    return any([state[record] != name for record, name in enumerate(image) if record not in inside])
