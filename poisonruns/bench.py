"""Benches: an evidence that grows, and what was done to it can be taken back."""

from poisonruns.errors import InvalidEvidence, Refused


class Trial:
    """A block behind which a bench is as it was when the block was entered."""

    def __init__(self, bench):
        self._bench = bench
        self._evidence = None
        self._runs = ()
        self._past = ()

    def __enter__(self):
        bench = self._bench
        self._evidence = bench.evidence
        self._runs = bench.runs
        self._past = bench._past
        return bench

    def __exit__(self, kind, value, trace):
        bench = self._bench
        bench._evidence = self._evidence
        bench.runs = self._runs
        bench._past = self._past


class Bench:
    """An evidence that grows."""

    def __init__(self, evidence):
        self._put(evidence, ())

    @property
    def evidence(self):
        """The evidence as it is now."""
        return self._evidence

    def see(self, run):
        """Adds a run."""
        self._become(self._evidence.plus(run))

    def several(self, runs):
        """Adds all of the runs, or none."""
        grown = self._evidence
        for at, run in enumerate(runs):
            try:
                grown = grown.plus(run)
            except InvalidEvidence as error:
                raise Refused(at) from error
        if len(runs) > 0:
            self._become(grown)

    def allow(self, slips):
        """Sets the slips."""
        self._become(self._evidence.allowing(slips))

    def drop(self, at):
        """Leaves out the run with this number."""
        self._become(self._evidence.without(at))

    def undo(self):
        """Takes back the last deed, and tells whether there was one."""
        if len(self._past) == 0:
            return False
        self._put(self._past[-1], self._past[:-1])
        return True

    def trial(self):
        """A new context manager: behind its block the bench is as it was when the block was entered."""
        return Trial(self)

    def within(self, work):
        """What `work` returns for the bench, which is then as it was before."""
        with self.trial() as bench:
            return work(bench)

    def _become(self, evidence):
        """Does a deed behind which this is the evidence."""
        self._put(evidence, (*self._past, self._evidence))

    def _put(self, evidence, past):
        """Makes this the evidence; `past` has, for each deed that can be taken back, the evidence ahead of it."""
        self._evidence = evidence
        # No property, as an evidence has an attribute of this name: it is set whenever the evidence is.
        self.runs = evidence.runs
        self._past = past

    def __len__(self):
        return len(self._past)
