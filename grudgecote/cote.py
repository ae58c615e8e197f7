"""A cote kept over many deeds, each of which can be undone."""

from grudgecote.between import between
from grudgecote.errors import NoDeed, NoPeace, Own
from grudgecote.peace import lay_down, may_in
from grudgecote.pecks import go_in, heaps_of
from grudgecote.standings import need_asleep, need_awake, need_dove, standing_of


class Cote:
    """Doves with their heaps, some asleep, and all deeds since it was made."""

    def __init__(self, standing, *, asleep=()):
        # What it is behind each first so many deeds that stand: the standing and who sleeps. All of
        # it is made of tuples, so several cotes may hold the same, and it may be told as it is.
        self._states = [(standing_of(standing), tuple(asleep))]
        self._deeds = []
        self._log = []

    def _keep(self, deed, standing, asleep):
        """Keep a deed, and what it is behind it."""
        self._states.append((standing, asleep))
        self._deeds.append(deed)
        self._log.append(deed)

    def _keep_heaps(self, deed, heaps):
        """Keep a deed that changes heaps alone."""
        self._keep(deed, standing_of(heaps), self.asleep())

    def peck(self, dove):
        """Let a dove peck; told is the pair (the dove that got it, its WORD)."""
        heaps = heaps_of(self.standing())
        gifts = go_in(heaps, [dove], self.asleep())
        self._keep_heaps(("peck", dove), heaps)
        return gifts[0]

    def go(self, row):
        """Let a row of doves peck, as one deed; told is the list of what peck tells."""
        heaps = heaps_of(self.standing())
        gifts = go_in(heaps, row, self.asleep())
        self._keep_heaps(("go", tuple(row)), heaps)
        return gifts

    def peace(self, one, other):
        """Let two doves make peace."""
        heaps = heaps_of(self.standing())
        need_dove(heaps, one)
        need_dove(heaps, other)
        need_awake(self.asleep(), one)
        need_awake(self.asleep(), other)
        if not may_in(heaps, one, other):
            raise NoPeace()
        lay_down(heaps, one, other)
        self._keep_heaps(("peace", one, other), heaps)

    def lay(self, dove, about, word):
        """Lay one more grudge uppermost on a dove's heap."""
        heaps = heaps_of(self.standing())
        need_dove(heaps, dove)
        need_dove(heaps, about)
        if dove == about:
            raise Own(dove)
        heaps[dove].append((about, word))
        self._keep_heaps(("lay", dove, about, word), heaps)

    def sleep(self, dove):
        """Let a dove that is awake sleep."""
        need_dove(self.standing(), dove)
        need_awake(self.asleep(), dove)
        self._keep(("sleep", dove), self.standing(), tuple(sorted(self.asleep() + (dove,))))

    def wake(self, dove):
        """Let a dove that sleeps wake."""
        need_dove(self.standing(), dove)
        need_asleep(self.asleep(), dove)
        self._keep(("wake", dove), self.standing(), tuple([sleeper for sleeper in self.asleep() if sleeper != dove]))

    def undo(self):
        """Undo the last deed that stands; told is whether there is one."""
        if not self._deeds:
            return False
        self._states.pop()
        self._deeds.pop()
        self._log.append(("undo",))
        return True

    def standing(self):
        """Its STANDING."""
        return self._states[-1][0]

    def asleep(self):
        """The rising tuple of the doves that sleep."""
        return self._states[-1][1]

    def told(self, standing):
        """What between tells, from its own standing to that one, by who sleeps now."""
        return between(self.standing(), standing, asleep=self.asleep())

    def deeds(self):
        """How many deeds stand."""
        return len(self._deeds)

    def log(self):
        """All deeds done, undone ones too, and all undos of one, as tuples of the word and what it was handed."""
        return list(self._log)

    def as_of(self, many):
        """A cote of its own as this one is behind the first so many deeds that stand."""
        if not 0 <= many <= len(self._deeds):
            raise NoDeed(many)
        standing, asleep = self._states[0]
        early = Cote(standing, asleep=asleep)
        early._states = self._states[:many + 1]
        early._deeds = self._deeds[:many]
        early._log = self._deeds[:many]
        return early

    def twin(self):
        """A cote of its own as this one is."""
        return self.as_of(self.deeds())

    def __len__(self):
        return len([grudge for heap in self.standing() for grudge in heap])

    def __eq__(self, other):
        return isinstance(other, Cote) and self._states[-1] == other._states[-1]

    def __repr__(self):
        return f"Cote({len(self.standing())} doves, {len(self)} grudges)"
