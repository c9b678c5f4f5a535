"""The greatest total of the walks through a graph."""


def _goes_round(origins):
    """Whether one comes back to a node if one goes from nodes to their origins, again and again."""
    done = {}
    for first in range(len(origins)):
        node = first
        passed = {}
        while node is not None and node not in done:
            passed[node] = True
            done[node] = True
            node = origins[node]
        if node in passed:
            return True
    return False


def _greatest_totals(ways):
    """For each node the greatest total of a walk from node 0 to it, None if there is no walk.

    The answer is None if somewhere there is no greatest one.
    """
    totals = [None] * len(ways)
    totals[0] = 0
    origins = [None] * len(ways)
    improved = [0]
    looked_at = 0
    while improved:
        later = {}
        for node in improved:
            for target, gain in ways[node]:
                total = totals[node] + gain
                if totals[target] is None or total > totals[target]:
                    totals[target] = total
                    origins[target] = node
                    later[target] = True
        # As soon as the origins go round in a circle, each time round the total grows. They come to
        # do so wherever it can grow for ever, so it is enough to look now and then.
        looked_at += len(improved)
        if looked_at > len(ways):
            looked_at = 0
            if _goes_round(origins):
                return None
        improved = list(later)
    return totals


def greatest_total(ways, ends):
    """The greatest total of a walk that begins at node 0; None if there is no greatest one.

    `ways[node]` is a list of tuples of a node that may follow and the gain on the way there;
    `ends[node]` is the gain if the walk ends there, None if it may not. Callers see to it that each
    node leads on to one where a walk may end, and that one can be reached.
    """
    totals = _greatest_totals(ways)
    if totals is None:
        return None
    reached = [node for node in range(len(ways)) if totals[node] is not None and ends[node] is not None]
    return max([int(totals[node] + ends[node]) for node in reached])
