"""The order of kinds, over a dict that has for each kind a dict of all kinds above it, itself among them."""


def low_of(upward, one, other):
    """The greatest kind below both, or None."""
    if other in upward[one]:
        return one
    if one in upward[other]:
        return other
    shared = [kind for kind in upward if one in upward[kind] and other in upward[kind]]
    if not shared:
        return None
    # The others are all below the greatest one, and so each of them has more kinds above it.
    return min(shared, key=lambda kind: len(upward[kind]))


def low_of_all(upward, kinds):
    """The greatest kind below all of one kind or more, or None."""
    low = kinds[0]
    for kind in kinds[1:]:
        if low is not None:
            low = low_of(upward, low, kind)
    return low


def high_of(upward, one, other):
    """The least kind above both."""
    shared = [kind for kind in upward[one] if kind in upward[other]]
    return max(shared, key=lambda kind: len(upward[kind]))


def first_fork(upward, above):
    """The first two of the kinds above a new kind that have a low already which is not above it, or None."""
    rising = sorted(above)
    for at, one in enumerate(rising):
        for other in rising[at + 1:]:
            low = low_of(upward, one, other)
            if low is not None and low not in above:
                return one, other
    return None


def leads_of(upward, musts):
    """For each kind with a must the kinds to which its must leads on."""
    leads = {}
    for name in musts:
        inner = [kind for kind, pairs in musts[name].nodes()[1:]]
        leads[name] = [other for other in musts if any([low_of(upward, other, kind) is not None for kind in inner])]
    return leads


def comes_round(leads, start):
    """Whether one comes from a kind to itself, in one step or in several."""
    met = {}
    waiting = list(leads[start])
    while waiting:
        kind = waiting.pop()
        if kind not in met:
            met[kind] = True
            waiting.extend(leads[kind])
    return start in met


def has_ring(upward, musts):
    """Whether some kind with a must is led on to itself."""
    leads = leads_of(upward, musts)
    return any([comes_round(leads, start) for start in leads])
