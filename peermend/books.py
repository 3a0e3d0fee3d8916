"""Books of other tables, each with one writer ([57] to [63])."""

from peermend.circles import (
    circle_kind, circles_of, filled, is_circle_kind, is_odd, is_settled, lacks_one, parity_clash,
    ring_clash, ring_crowd, slot_clash, slot_crowd, with_names_exchanged,
)
from peermend.clashes import Clash, is_safe, kind_clash
from peermend.errors import InvalidKind, InvalidSize, NotInBook, UnequalSizes, Unrepairable
from peermend.images import check_image, is_state
from peermend.kinds import kind_of
from peermend.pieces import is_repairable
from peermend.repair import repair


class Book:
    """Rows of one size."""

    LEAST = 1

    def __init__(self, size):
        if size < self.LEAST:
            raise InvalidSize(size)
        self.size = size

    def check(self, row):
        """Raise UnequalSizes, then InvalidImage."""
        if len(row) != self.size:
            raise UnequalSizes()
        check_image(row)


class PairBook(Book):
    """The states of a table."""

    LEAST = 1

    def is_state(self, row):
        """Tell whether the row is a state of the book."""
        self.check(row)
        return is_state(row)

    def kind_between(self, before, after):
        """Return the kind of the update from one state to another."""
        _check_states(self, before, after)
        return kind_of(before, after)

    def is_safe(self, kind):
        """Tell whether the kind is safe."""
        safe = is_safe(kind)
        if sum([entry[1] for entry in kind]) > self.size:
            raise InvalidKind()
        return safe

    def can_come_up(self, image):
        """Tell whether updates of safe kinds can leave the image."""
        self.check(image)
        return is_repairable(image)

    def mended(self, image):
        """Return the state to which the image is mended."""
        if not self.can_come_up(image):
            raise Unrepairable([])
        return repair(image)

    def clash(self, kind):
        """Return a clash for a kind that is not safe, and None for a safe one."""
        if self.is_safe(kind):
            return None
        clash = kind_clash(kind)
        rest = list(range(len(clash.image), self.size))
        first, last = [row + rest for row in clash.first]
        one, other = [row + rest for row in clash.second]
        return Clash((first, last), (one, other), clash.image + rest)

    def crowd(self):
        """Return None, for any number of writers may be at work."""
        return None


class SlotBook(Book):
    """Rows in which every block occurs once."""

    LEAST = 1

    def is_state(self, row):
        """Tell whether the row is a state of the book."""
        self.check(row)
        return is_settled(row)

    def kind_between(self, before, after):
        """Return the kind of the update from one state to another."""
        _check_states(self, before, after)
        return circle_kind(before, after)

    def is_safe(self, kind):
        """Tell whether the kind is safe."""
        if not is_circle_kind(kind, self.size):
            raise InvalidKind()
        return kind in ((), (2,))

    def can_come_up(self, image):
        """Tell whether updates of safe kinds can leave the image."""
        self.check(image)
        return is_settled(image) or lacks_one(image)

    def mended(self, image):
        """Return the state to which the image is mended."""
        if not self.can_come_up(image):
            raise Unrepairable([])
        return filled(image)[-1]

    def clash(self, kind):
        """Return a clash for a kind that is not safe, and None for a safe one."""
        if self.is_safe(kind):
            return None
        return slot_clash(kind, self.size)

    def crowd(self):
        """Return two pairs of writers in one image, or None if they have no room."""
        if self.size < 4:
            return None
        return slot_crowd(self.size)


class ParityBook(SlotBook):
    """The even rows among those of a SlotBook, or the odd ones."""

    LEAST = 3

    def __init__(self, size, *, odd=False):
        super().__init__(size)
        self.odd = odd

    def is_state(self, row):
        """Tell whether the row is a state of the book."""
        self.check(row)
        return is_settled(row) and is_odd(row) == self.odd

    def kind_between(self, before, after):
        """Return the kind of the update from one state to another."""
        _check_states(self, before, after)
        return circle_kind(before, after)

    def is_safe(self, kind):
        """Tell whether the kind is safe."""
        evens = [length for length in kind if length % 2 == 0]
        if not is_circle_kind(kind, self.size) or len(evens) % 2 == 1:
            raise InvalidKind()
        return kind in ((), (3,))

    def can_come_up(self, image):
        """Tell whether updates of safe kinds can leave the image."""
        return self.is_state(image) or lacks_one(image)

    def mended(self, image):
        """Return the state to which the image is mended."""
        if not self.can_come_up(image):
            raise Unrepairable([])
        return _filled_evenly(image, self.odd)

    def clash(self, kind):
        """Return a clash for a kind that is not safe, and None for a safe one."""
        if self.is_safe(kind):
            return None
        clash = parity_clash(kind, self.size)
        if not self.odd:
            return clash
        first, last = [with_names_exchanged(row) for row in clash.first]
        one, other = [with_names_exchanged(row) for row in clash.second]
        return Clash((first, last), (one, other), with_names_exchanged(clash.image))

    def crowd(self):
        """Return two pairs of writers in one image, or None if they have no room."""
        if self.size < 6:
            return None
        image, first, second = ring_crowd(self.size)
        if is_odd(first[0]) == self.odd:
            return image, first, second
        return (
            with_names_exchanged(image),
            [with_names_exchanged(row) for row in first],
            [with_names_exchanged(row) for row in second],
        )


class RingBook(ParityBook):
    """The rows that are a single circle."""

    LEAST = 3

    def __init__(self, size):
        super().__init__(size, odd=(size - 1) % 2 == 1)

    def is_state(self, row):
        """Tell whether the row is a state of the book."""
        self.check(row)
        return is_settled(row) and len(circles_of(row)) == 1

    def kind_between(self, before, after):
        """Return the kind of the update from one state to another."""
        _check_states(self, before, after)
        differing = [slot for slot, block in enumerate(before) if block != after[slot]]
        return () if len(differing) == 0 else (len(differing),)

    def is_safe(self, kind):
        """Tell whether the kind is safe."""
        if len(kind) > 1 or any([length < 3 or length > self.size for length in kind]):
            raise InvalidKind()
        return kind in ((), (3,))

    def can_come_up(self, image):
        """Tell whether updates of safe kinds can leave the image."""
        if self.is_state(image):
            return True
        if not lacks_one(image) or any([slot == block for slot, block in enumerate(image)]):
            return False
        return len(circles_of(_filled_evenly(image, self.odd))) == 1

    def mended(self, image):
        """Return the state to which the image is mended."""
        if not self.can_come_up(image):
            raise Unrepairable([])
        return _filled_evenly(image, self.odd)

    def clash(self, kind):
        """Return a clash for a kind that is not safe, and None for a safe one."""
        if self.is_safe(kind):
            return None
        return ring_clash(kind[0], self.size)

    def crowd(self):
        """Return two pairs of writers in one image, or None if they have no room."""
        if self.size < 6:
            return None
        return ring_crowd(self.size)


def _check_states(book, before, after):
    """Check the two rows one after the other, then raise NotInBook if one is not a state."""
    book.check(before)
    book.check(after)
    if not (book.is_state(before) and book.is_state(after)):
        raise NotInBook()


def _filled_evenly(image, odd):
    """Return the row in which the missing block is where it makes the row odd or even."""
    first = filled(image)[0]
    return first if is_odd(first) == odd else filled(image)[-1]
