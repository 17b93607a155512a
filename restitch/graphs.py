"""Graphs: dicts from each point to the list of the points that follow it."""


def reached(graph, start):
    """The points to which ways lead from one, itself among them, ascending."""
    found = {start: True}
    waiting = [start]
    while waiting:
        following = graph[waiting.pop()]
        for point in following:
            if point not in found:
                found[point] = True
                waiting.append(point)
    return sorted(found)


def reached_from_all(graph, starts):
    """For each start, ascending, the points that are reached from it, as tuples."""
    # Points that lead to each other reach the same ones, which are searched for once.
    first = {point: joined[0] for joined in joined_sets(graph) for point in joined}
    found = {}
    for start in starts:
        if first[start] not in found:
            found[first[start]] = tuple(reached(graph, start))
    return [(start, found[first[start]]) for start in sorted(starts)]


def joined_sets(graph):
    """The sets of points that lead to each other, each a list."""
    backwards = {point: [] for point in graph}
    for point, following in graph.items():
        for other in following:
            backwards[other].append(point)
    found = []
    done = {}
    for point in reversed(_by_end(graph)):
        if point not in done:
            found.append(_new_ones(backwards, point, done))
    return found


def _by_end(graph):
    """The points in the order in which a search in depth leaves them."""
    seen = {}
    left = []
    for start in graph:
        if start in seen:
            continue
        seen[start] = True
        path = [(start, 0)]
        while path:
            point, at = path.pop()
            if at == len(graph[point]):
                left.append(point)
                continue
            path.append((point, at + 1))
            other = graph[point][at]
            if other not in seen:
                seen[other] = True
                path.append((other, 0))
    return left


def _new_ones(graph, start, done):
    """The points reached from one that are not done; they are done then."""
    done[start] = True
    found = [start]
    at = 0
    while at < len(found):
        following = graph[found[at]]
        for point in following:
            if point not in done:
                done[point] = True
                found.append(point)
        at += 1
    return found
