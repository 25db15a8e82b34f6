"""Circles in a graph: its nodes are numbers, `leads` lists for each of them those to which it leads."""


def finished(leads):
    """The numbers in the order in which a walk from 0 leaves them: each behind those that it found from there."""
    seen = {0: True}
    path = [0]
    taken = [0 for _ in leads]
    order = []
    while len(path) > 0:
        last = path[-1]
        if taken[last] == len(leads[last]):
            order.append(path.pop())
        else:
            led = leads[last][taken[last]]
            taken[last] += 1
            if led not in seen:
                seen[led] = True
                path.append(led)
    return order


def turned_back(leads):
    """For each number those that lead to it."""
    found = [[] for _ in leads]
    for number, row in enumerate(leads):
        for led in row:
            found[led].append(number)
    return found


def gathered(back, root, gone):
    """The root and all that leads to it, as the keys of a dict, without what is gone."""
    group = {root: True}
    waiting = [root]
    while len(waiting) > 0:
        last = waiting.pop()
        for number in back[last]:
            if number not in gone and number not in group:
                group[number] = True
                waiting.append(number)
    return group


def circling(leads):
    """The numbers, as the keys of a dict, from which some way leads back to the same number.

    All numbers can be reached from 0.
    """
    back = turned_back(leads)
    gone = {}
    found = {}
    # What leads to the last one of those that are left can also be reached from it.
    for root in reversed(finished(leads)):
        if root not in gone:
            group = gathered(back, root, gone)
            gone.update(group)
            if len(group) > 1 or root in leads[root]:
                found.update(group)
    return found
