"""Sums of demands in cuts. (Demands are checked already where this file takes them.)"""

from surepipes.amounts import Amount
from surepipes.cuts import cuts


def sum_in(demands, nodes):
    """The sum of the demands in a set of nodes."""
    amounts = [demands[node] for node in nodes]
    return Amount.sum_of(*amounts)


def sums_of_cuts(net, demands, u, v):
    """The list of the sums of the demands in all cuts of (u, v)."""
    return [sum_in(demands, cut) for cut in cuts(net, u, v)]


def cut_towards(net, demands, u, v, sign):
    """The cut of (u, v) with the greatest sum (sign 1) or the least one (sign -1); None if no sum has this sign."""
    found = None
    most = Amount(0)
    for cut in cuts(net, u, v):
        amount = sum_in(demands, cut) * sign
        if amount > most:
            found = cut
            most = amount
    return found
