"""Sights: all that is told of a program on a box, each part looked up when it is first asked for."""

from roundedsteps.lots import lots
from roundedsteps.views import View


class Sight:
    """A program on a box, as it is run, and as it is without rounding."""

    def __init__(self, program, box):
        """Look at the run; the box is known to be right."""
        self.program = program
        self.box = box
        self.view = View(program, box, False)
        # Many claims are decided without these.
        self.known_exact = None
        self.known_lots = None

    def exact_view(self):
        """The view without rounding."""
        if self.known_exact is None:
            self.known_exact = View(self.program, self.box, True)
        return self.known_exact

    def are_alike(self, one, other):
        """Whether two names are of one lot."""
        if one == other:
            return True
        if self.known_lots is None:
            self.known_lots = lots(self.view)
        return any([one in lot and other in lot for lot in self.known_lots])
