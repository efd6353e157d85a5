"""Heights and flows by straight curves: they solve linear equations, and so they can be reckoned exactly.

Some nodes are FIXED: their heights are told. INPUTS tell what is put in at the others.
"""

from surepipes.amounts import Amount


def _coefficients(net, conductances, free):
    """For each free node a dict from nodes to what one more of their height adds to the balance of this node."""
    rows = {node: {far: Amount(0) for far in net.nodes} for node in free}
    for pipe in net:
        tail, head = net[pipe]
        for node, other in ((tail, head), (head, tail)):
            if node in rows:
                rows[node][node] = rows[node][node] + conductances[pipe]
                rows[node][other] = rows[node][other] - conductances[pipe]
    return rows


def _right_side(row, fixed, put_in):
    """What the free nodes have to add up to in a row, the fixed ones being told."""
    right = put_in
    for node in fixed:
        right = right - row[node] * fixed[node]
    return right


def _less(row, other, share):
    return [mine - theirs * share for mine, theirs in zip(row, other)]


def _solved(rows):
    """The solution of linear equations, each of which ends with its right side.

    No pivot is 0 for the equations of a connected net with at least one fixed node: so the rows need no exchange.
    """
    left = [list(row) for row in rows]
    for at in range(len(left)):
        for other in range(len(left)):
            if other != at and left[other][at].sign != 0:
                share = left[other][at].over(left[at][at])
                left[other] = _less(left[other], left[at], share)
    return [left[at][-1].over(left[at][at]) for at in range(len(left))]


def heights_by(net, conductances, fixed, inputs):
    """The heights of all nodes, a dict: as told at fixed nodes, balances as told by inputs at the others."""
    free = [node for node in net.nodes if node not in fixed]
    rows = _coefficients(net, conductances, free)
    equations = []
    for node in free:
        row = rows[node]
        left = [row[other] for other in free]
        equations.append([*left, _right_side(row, fixed, inputs[node])])
    found = dict(zip(free, _solved(equations)))
    return {node: fixed[node] if node in fixed else found[node] for node in net.nodes}


def resistance(net, conductances, fixed, pipe):
    """The drop of a pipe if 1 is put in at its tail and taken out at its head, all fixed nodes having the height 0."""
    tail, head = net[pipe]
    inputs = {node: Amount(0) for node in net.nodes}
    inputs[tail] = Amount(1)
    inputs[head] = Amount(-1)
    heights = heights_by(net, conductances, {node: Amount(0) for node in fixed}, inputs)
    return heights[tail] - heights[head]
