"""Mendings: how long a house waits before it begins one."""

from neverunsaid.trees import check_house


def wait_of(tree, house):
    """How many ticks a house that does not stand lets pass before it begins a mending."""
    check_house(tree, house)
    # Houses that rise at one moment wait unlike times, so one of them begins ahead of the others.
    return 8 + tree.houses + 3 * house
