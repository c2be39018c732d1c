"""Plans: the fewest single moves that do a lead, and the paper that shows why."""

from movesatonce.errors import BadWord, NoWay
from movesatonce.leads import check_lead, real_pairs, rings, shut_rings
from movesatonce.singles import check_spares


def last_goals(pairs):
    """Tell the pairs whose goal is the source of none of them."""
    sources = [source for goal, source in pairs]
    return [(goal, source) for goal, source in pairs if goal not in sources]


def outer_pairs(lead):
    """Tell the real pairs beside all rings, each ahead of the one that writes over its source."""
    ordered = []
    left = real_pairs(lead)
    ready = last_goals(left)
    while ready:
        ordered.extend(ready)
        left = [pair for pair in left if pair not in ready]
        ready = last_goals(left)
    return ordered


def box_aside(lead, spares):
    """Tell a box that may hold, for a while, what a box of a shut ring has."""
    if spares:
        return spares[0]
    ends = [goal for goal, source in last_goals(real_pairs(lead))]
    if not ends:
        raise NoWay("a ring is shut, and there is no box to hold what it has meanwhile")
    return ends[0]


def turn(ring, holder):
    """Tell the copies that do a ring, where a holder has what the ring's last box has."""
    copies = [("copy", goal, source) for source, goal in zip(ring, ring[1:])]
    # The last box first: each box is written when the next one has its worth.
    return [*copies[::-1], ("copy", ring[0], holder)]


def turn_shut(ring, aside):
    """Tell the copies that do a shut ring by a box aside."""
    return [("copy", aside, ring[-1]), *turn(ring, aside)]


def turn_open(ring, outer):
    """Tell the copies that do a ring behind the outer pairs, one of which it hands outwards by."""
    goal, source = [pair for pair in outer if pair[1] in ring][0]
    behind = ring.index(source) + 1
    return turn(ring[behind:] + ring[:behind], goal)


def by_copies(boxes, lead, spares):
    """Tell as few copies as can be that do a lead beside its spares."""
    check_lead(boxes, lead)
    check_spares(boxes, lead, spares)
    shut = shut_rings(boxes, lead)
    moves = []
    # Shut rings go first, for the box aside may be a goal, which is written for good later.
    for ring in shut:
        moves.extend(turn_shut(ring, box_aside(lead, spares)))
    outer = outer_pairs(lead)
    moves.extend([("copy", goal, source) for goal, source in outer])
    for ring in rings(boxes, lead):
        if ring not in shut:
            moves.extend(turn_open(ring, outer))
    return moves


def by_swaps(boxes, lead):
    """Tell as few copies and swaps as can be that do a lead beside no spares."""
    check_lead(boxes, lead)
    # Outer pairs go first, for a ring may be what their worths come from.
    moves = [("copy", goal, source) for goal, source in outer_pairs(lead)]
    for ring in rings(boxes, lead):
        moves.extend([("swap", ring[0], box) for box in ring[1:]])
    return moves


def paper(boxes, lead):
    """Tell the goals of real pairs, the shut rings and all rings."""
    check_lead(boxes, lead)
    goals = sorted([goal for goal, source in real_pairs(lead)])
    return goals, shut_rings(boxes, lead), rings(boxes, lead)


def least(boxes, lead, word):
    """Tell how many the fewest copies, or copies and swaps, are that do a lead."""
    goals, shut, every = paper(boxes, lead)
    if word == "copies":
        return len(goals) + len(shut)
    if word == "swaps":
        return len(goals) - len(every)
    raise BadWord("the words are copies and swaps")
