"""The fewest deeds that lead to an end."""

from heapq import heappop, heappush

END = "end"


def fewest(search, start):
    """The list of the fewest deeds that lead from a start to END, or None if none do.

    search.moves(standing, last) lists the deeds that can follow the deed last (None at the start), each as a tuple
    (deed, the standing behind it); search.left(standing) is a number of deeds that END surely is away from there.
    """
    counted = 0
    queue = [(0, 0, counted, start, [])]
    least = {start: 0}
    while queue:
        _, _, _, standing, deeds = heappop(queue)
        if standing == END:
            return deeds
        # A standing to which a shorter way was found later stands in the queue twice.
        if len(deeds) > least[standing]:
            continue
        for deed, follower in search.moves(standing, deeds[-1] if deeds else None):
            many = len(deeds) + 1
            if follower not in least or many < least[follower]:
                least[follower] = many
                left = 0 if follower == END else search.left(follower)
                counted += 1
                heappush(queue, (many + left, left, counted, follower, [*deeds, deed]))
    return None
