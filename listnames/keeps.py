"""How long keepers may keep what they are told, such that times still keep demands."""

from listnames.towns import GREATEST_KEEP
from listnames.waits import keeps


def greatest_keep(town, plan, demands, times, keeper, kind):
    """The greatest number of a keeper for a kind with which times keep demands, or None."""
    # With a greater number no less can be told, so what is kept with one is kept with all that are less.
    low, high = -1, GREATEST_KEEP
    while low < high:
        middle = (low + high + 1) // 2
        if keeps(town.with_keep(keeper, kind, middle), plan, demands, times):
            low = middle
        else:
            high = middle - 1
    return None if low < 0 else low


def greatest_keeps(town, plan, demands, times):
    """For each keeper the tuple of the greatest number for what is found, and of that for what is not."""
    return [(greatest_keep(town, plan, demands, times, keeper, "found"),
             greatest_keep(town, plan, demands, times, keeper, "lost")) for keeper in range(len(town.keepers()))]
