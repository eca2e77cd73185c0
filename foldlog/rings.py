"""Rings: bonds that lead back to where they began, their minutes together above 0."""

from foldlog.logs import EARLIER, LATER, MINUTES


def climb(bonds, heights, came_by):
    # Goes over all bonds once and tells the last entry that rose, or None.
    risen = None
    for number, bond in enumerate(bonds):
        height = heights[bond[EARLIER]] + bond[MINUTES]
        if height > heights[bond[LATER]]:
            heights[bond[LATER]] = height
            came_by[bond[LATER]] = number
            risen = bond[LATER]
    return risen


def climbed(frame):
    # A tuple (heights, came_by, risen). Without a ring nothing rises in the last
    # of as many rounds as there are entries, and the heights keep all bonds.
    bonds = frame.bonds()
    many = len(frame.spans())
    heights = [0] * many
    came_by = [None] * many
    risen = None
    for turn in range(many):
        risen = climb(bonds, heights, came_by)
        if risen is None:
            break
    return (heights, came_by, risen)


def heights_of(frame):
    return climbed(frame)[0]


def ring_behind(bonds, came_by, risen):
    # Each round builds on the one ahead of it: so from an entry that rose in the
    # last round it goes back over as many bonds as there are entries, into a ring.
    start = risen
    for turn in range(len(came_by)):
        start = bonds[came_by[start]][EARLIER]
    numbers = [came_by[start]]
    while bonds[numbers[-1]][EARLIER] != start:
        numbers.append(came_by[bonds[numbers[-1]][EARLIER]])
    return list(reversed(numbers))


def ring_of(frame):
    told = climbed(frame)
    if told[2] is None:
        return None
    return ring_behind(frame.bonds(), told[1], told[2])
