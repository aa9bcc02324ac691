"""All throws of a size."""

from lotthrows.throws import KEPT, TURNED


def one_kind_longer(throw, kind):
    """Return all throws that come of a throw if a kind is put in that is greater than its own ones."""
    longer = []
    for at in range(len(throw) + 1):
        for sign in (KEPT, TURNED):
            longer.append(throw[:at] + (((kind,), sign),) + throw[at:])
    for at, (lot, sign) in enumerate(throw):
        longer.append(throw[:at] + ((lot + (kind,), sign),) + throw[at + 1:])
    return longer


def throws_of_size(size):
    """Return all throws of a size, ascending."""
    found = [()]
    for kind in range(size):
        found = [longer for throw in found for longer in one_kind_longer(throw, kind)]
    return sorted(found)
