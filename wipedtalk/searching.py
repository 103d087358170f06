"""A search for the shortest broken talks."""

from wipedtalk.checks import check_number
from wipedtalk.programs import check_pair
from wipedtalk.runs import possible
from wipedtalk.verdicts import check_excusing, verdict


def one_longer(pair, runs):
    """All runs that begin with one of these and have one event more, in the order of `possible`."""
    return [run + [event] for run in runs for event in possible(pair, run)]


def first_broken(pair, runs, excusing):
    """The first of these runs whose verdict is not good, or None."""
    for run in runs:
        if verdict(pair, run, excusing=excusing) != "good":
            return run
    return None


def least_broken(pair, most, *, excusing=("sender", "receiver")):
    """The first one of the shortest runs, of at most so many events, whose verdict is not good; or None."""
    check_pair(pair)
    check_number(most, 0)
    check_excusing(excusing)
    runs = [[]]
    broken = first_broken(pair, runs, excusing)
    length = 0
    while broken is None and length < most:
        # Runs of one length stay in order, as each is followed by its longer ones.
        runs = one_longer(pair, runs)
        broken = first_broken(pair, runs, excusing)
        length += 1
    return broken
