"""Updates: pairs of states of the same size ([10] to [13], [16])."""

from peermend.errors import Busy, InvalidRecord, InvalidUpdate
from peermend.images import check_image, check_pair
from peermend.kinds import kind_of, sample_rows


class Update:
    """The update from the state `before` to the state `after`."""

    def __init__(self, before, after):
        check_pair(before, after)
        self.before = list(before)
        self.after = list(after)

    @property
    def records(self):
        """The records that show different names in the two states, ascending."""
        after = self.after
        return [record for record, name in enumerate(self.before) if name != after[record]]

    @property
    def kind(self):
        """The kind of the update."""
        return kind_of(self.before, self.after)

    def torn(self, *done):
        """Return the torn image in which exactly the given records are written."""
        records = self.records
        for record in done:
            if record not in records:
                raise InvalidRecord(record)
        return _written(self.before, self.after, done)

    def torn_images(self):
        """Yield all torn images, in the order of the bits of [11]."""
        records = self.records
        for number in range(1 << len(records)):
            done = [record for at, record in enumerate(records) if number >> at & 1]
            yield _written(self.before, self.after, done)

    def fits(self, image):
        """Tell whether the image shows one of the two names at each record of the update."""
        check_image(image)
        if len(image) != len(self.before):
            return False
        names = [(image[record], self.before[record], self.after[record]) for record in self.records]
        return all([shown in (old, new) for shown, old, new in names])

    def outcome(self, image):
        """Return "foreign", "undone", "done" or "torn"."""
        if not self.fits(image):
            return "foreign"
        records = self.records
        if all([image[record] == self.before[record] for record in records]):
            return "undone"
        if all([image[record] == self.after[record] for record in records]):
            return "done"
        return "torn"

    @classmethod
    def rest(cls, state):
        """Return the update from the state to itself."""
        return cls(state, state)

    @staticmethod
    def joint(*updates):
        """Return the sum of the updates from left to right."""
        if len(updates) == 0:
            raise InvalidUpdate()
        total = Update.rest(updates[0].before)
        for update in updates:
            total = total + update
        return total

    def __neg__(self):
        return Update(self.after, self.before)

    def __add__(self, other):
        if not isinstance(other, Update):
            return NotImplemented
        if self.before != other.before:
            raise InvalidUpdate()
        theirs = other.records
        for record in self.records:
            if record in theirs:
                raise Busy(record)
        return Update(self.before, _written(self.after, other.after, theirs))

    def __eq__(self, other):
        return isinstance(other, Update) and self.before == other.before and self.after == other.after

    def __len__(self):
        return len(self.records)

    def __contains__(self, x):
        return x in self.records

    def __repr__(self):
        return f"Update({self.before!r}, {self.after!r})"


def sample(kind):
    """Return the update with the states of `sample_rows`."""
    before, after = sample_rows(kind)
    return Update(before, after)


def _written(old, new, done):
    """Return what is shown if `new` is written over `old` on the given records."""
    return [new[record] if record in done else name for record, name in enumerate(old)]
