"""The cuts that can come about when no letter is late (point 31)."""

from onescore.meaning import PlainRun, even_cuts
from onescore.world import World


def possible_cuts(score, inputs):
    """Returns the ascending list of the cuts that can come about, or raises the errors of World or TooLarge."""
    # A world is made for its errors alone: what its runners can do together are the even cuts.
    World(score, inputs)
    return even_cuts(PlainRun(score, inputs))
