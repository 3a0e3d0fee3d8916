"""The desk: a table that writers work on, and that may stop at any moment ([64] to [71])."""

from peermend.errors import (
    Busy, Down, InvalidRecord, InvalidUpdate, NotDown, NotReady, NothingToRedo, NothingToUndo,
    NoWriter, UnequalSizes, Unsafe, Written,
)
from peermend.images import check_state
from peermend.orders import is_borne
from peermend.repair import repair, torn_repair, writes
from peermend.rules import or_standard


class Work:
    """What a writer has to do and has done. It is never altered."""

    def __init__(self, writer, goal, batches, done):
        self.writer = writer
        self.goal = goal
        self.batches = [list(batch) for batch in batches]
        self.done = list(done)

    def is_over(self):
        """Tell whether all records are written."""
        return len(self.done) == len(self.goal)

    def ready(self):
        """Return the records that can be written now, ascending."""
        for batch in self.batches:
            waiting = [record for record in batch if record not in self.done]
            if len(waiting) > 0:
                return sorted(waiting)
        return []

    def after_write(self, record):
        """Return the work with one more record written."""
        return Work(self.writer, self.goal, self.batches, self.done + [record])


class Moment:
    """All that there is between two deeds. It is never altered."""

    def __init__(self, image, is_down, works, lost, begun):
        self.image = list(image)
        self.is_down = is_down
        self.works = list(works)
        self.lost = list(lost)
        self.begun = begun


class Desk:
    """A table, up or down, with its writers and the deeds done so far."""

    def __init__(self, state, *, rules=None):
        check_state(state)
        self._rules = or_standard(rules).copy()
        self._past = []
        self._now = Moment(state, False, [], [], 0)
        self._coming = []

    @property
    def table(self):
        """The image that the table shows."""
        return list(self._now.image)

    @property
    def down(self):
        """True or False."""
        return self._now.is_down

    @property
    def writers(self):
        """The numbers of the open writers, ascending."""
        return [work.writer for work in self._now.works]

    @property
    def deeds(self):
        """The number of deeds that can be taken back."""
        return len(self._past)

    def begin(self, update, order=None):
        """Start a writer and return its number."""
        now = self._now
        if now.is_down:
            raise Down()
        self._check_update(update)
        batches = [update.records] if order is None else order
        if not is_borne(update, batches, self._rules):
            raise Unsafe(update.kind)
        begun = now.begun + 1
        works = now.works + [Work(begun, update, batches, [])]
        self._do(Moment(now.image, False, works, now.lost, begun))
        return begun

    def write(self, writer, record):
        """Write the record and tell whether this closed the writer."""
        now = self._now
        if now.is_down:
            raise Down()
        work = self._work(writer)
        if record not in work.goal:
            raise InvalidRecord(record)
        if record in work.done:
            raise Written(record)
        if record not in work.ready():
            raise NotReady(record)
        image = list(now.image)
        image[record] = work.goal.after[record]
        later = work.after_write(record)
        works = [later if other.writer == writer else other for other in now.works]
        works = [other for other in works if not other.is_over()]
        self._do(Moment(image, False, works, now.lost, now.begun))
        return later.is_over()

    def crash(self):
        """Stop all writers and return their numbers, ascending."""
        now = self._now
        if now.is_down:
            raise Down()
        lost = self.writers
        self._do(Moment(now.image, True, [], now.works, now.begun))
        return lost

    def recover_some(self, *records):
        """Repair the table at the given records only."""
        now = self._now
        if not now.is_down:
            raise NotDown()
        image = torn_repair(now.image, *records, rules=self._rules)
        self._do(Moment(image, True, [], now.lost, now.begun))

    def recover(self):
        """Repair the table and return the records that are written, ascending."""
        now = self._now
        if not now.is_down:
            raise NotDown()
        written = writes(now.image, self._rules)
        self._do(Moment(self.settled(), False, [], now.lost, now.begun))
        return written

    def left(self, writer):
        """Return the records that the writer can write now, ascending."""
        return self._work(writer).ready()

    def settled(self):
        """Return the repair of the table as it is now."""
        return repair(self._now.image, self._rules)

    def fate(self, writer):
        """Return what would become of the update of an open writer if the desk crashed now."""
        return self._work(writer).goal.outcome(self.settled())

    def fates(self):
        """Return the writers lost in the last crash, each with what the table shows of it."""
        now = self._now
        return [(work.writer, work.goal.outcome(now.image)) for work in now.lost]

    def undo(self):
        """Take back the last deed."""
        if len(self._past) == 0:
            raise NothingToUndo()
        self._coming.append(self._now)
        self._now = self._past.pop()

    def redo(self):
        """Do again the deed that was taken back last."""
        if len(self._coming) == 0:
            raise NothingToRedo()
        self._past.append(self._now)
        self._now = self._coming.pop()

    def branch(self):
        """Return another desk that is the same in everything."""
        other = Desk([], rules=self._rules)
        other.become(self)
        return other

    def become(self, other):
        """Be the same as the other desk in everything except the rules, which are the same."""
        self._past = list(other._past)
        self._now = other._now
        self._coming = list(other._coming)

    def _do(self, moment):
        """Let a deed lead to the moment."""
        self._past.append(self._now)
        self._now = moment
        self._coming = []

    def _work(self, writer):
        """Return the work of an open writer."""
        for work in self._now.works:
            if work.writer == writer:
                return work
        raise NoWriter(writer)

    def _check_update(self, update):
        """Raise an error unless the update suits the table and the open writers."""
        image = self._now.image
        if len(update.before) != len(image):
            raise UnequalSizes()
        if len(update) == 0:
            raise InvalidUpdate()
        for record in update.records:
            if any([record in work.goal for work in self._now.works]):
                raise Busy(record)
        if any([image[record] != update.before[record] for record in update.records]):
            raise InvalidUpdate()


def attempt(desk, deeds):
    """Do the deeds one after the other, or none of them, and return what they return."""
    # Another desk does them, so that an error in the middle leaves this one as it was.
    trial = desk.branch()
    told = [_told(trial, deed) for deed in deeds]
    desk.become(trial)
    return told


def _told(desk, deed):
    """Do the deed and return what it returns."""
    name, given = deed[0], deed[1:]
    if name == "begin":
        return desk.begin(*given)
    if name == "write":
        return desk.write(*given)
    if name == "crash":
        return desk.crash(*given)
    if name == "recover_some":
        return desk.recover_some(*given)
    return desk.recover(*given)
