"""The cheapest and the dearest ways through a graph whose edges cost 0 or 1.

Edges is a dict from each node to a list of pairs (cost, node). From each node some node without edges can be reached.
"""


def least_cost(edges, start):
    """The least cost of a way from start to a node without edges."""
    cost = 0
    seen = {}
    layer = [start]
    while len(layer) > 0:
        later = []
        while len(layer) > 0:
            node = layer.pop()
            if node in seen:
                continue
            if len(edges[node]) == 0:
                return cost
            seen[node] = True
            layer.extend([other for price, other in edges[node] if price == 0])
            later.extend([other for price, other in edges[node] if price == 1])
        layer = later
        cost += 1
    return None


def greatest_cost(edges, start):
    """The greatest cost of a way from start, None if there is none: if a way that costs something leads back."""
    order = left_order(edges, start)[::-1]
    parts = ring_numbers(edges, order)
    costs = {part: 0 for part in range(len(order))}
    # The numbers ascend along the edges, so the cost of a ring is known before the ways go on from it.
    for node in sorted(order, key=lambda one: parts[one]):
        for price, other in edges[node]:
            if price == 1 and parts[node] == parts[other]:
                return None
            costs[parts[other]] = max(costs[parts[other]], costs[parts[node]] + price)
    return max([costs[part] for part in costs])


def left_order(edges, start):
    """The nodes that can be reached, in the order in which a search in depth leaves them."""
    order = []
    seen = {start: True}
    stack = [(start, 0)]
    while len(stack) > 0:
        node, at = stack.pop()
        if at == len(edges[node]):
            order.append(node)
            continue
        stack.append((node, at + 1))
        other = edges[node][at][1]
        if other not in seen:
            seen[other] = True
            stack.append((other, 0))
    return order


def ring_numbers(edges, order):
    """A dict from nodes to numbers: equal ones for nodes that lead to each other. Along edges they do not descend.

    Order has the nodes from the one that the search in depth left last to the one that it left first.
    """
    back = {node: [] for node in order}
    for node in order:
        for price, other in edges[node]:
            back[other].append(node)
    parts = {}
    for number, first in enumerate(order):
        ahead = [first]
        while len(ahead) > 0:
            node = ahead.pop()
            if node not in parts:
                parts[node] = number
                ahead.extend(back[node])
    return parts
