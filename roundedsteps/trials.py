"""Trials: blocks behind which a bench is as it was ahead of them, unless they are kept."""


class Trial:
    """One such block of a bench."""

    def __init__(self, bench):
        """Take the bench, which is not changed yet."""
        self.bench = bench
        # None until the block is kept, for __exit__ asks only whether something is None.
        self.kept = None

    def mark_kept(self):
        """Let what is done in the block stand behind it, if no error leaves it."""
        self.kept = True

    def __enter__(self):
        """Begin the block, the innermost one of the bench from now on."""
        bench = self.bench
        self.outer = bench.block
        self.past = bench.past
        self.future = bench.future
        self.program = bench.program
        self.looks = bench.looks
        self.claims = bench.claims
        self.deeds = bench.deeds
        self.done = bench.done
        bench.block = self
        return bench

    def __exit__(self, kind, value, trace):
        """End the block; an error passes on."""
        bench = self.bench
        bench.block = self.outer
        if kind is not None or self.kept is None:
            bench.past = self.past
            bench.future = self.future
            bench.program = self.program
            bench.looks = self.looks
            bench.claims = self.claims
            bench.deeds = self.deeds
            bench.done = self.done
