"""What can be reached from where."""


def reached(near, starts):
    """The ascending tuple of the numbers to which ways lead from some; near holds the neighbours of each number."""
    found = {start: True for start in starts}
    waiting = list(starts)
    while waiting:
        number = waiting.pop()
        for other in near[number]:
            if other not in found:
                found[other] = True
                waiting.append(other)
    return tuple(sorted(found))
