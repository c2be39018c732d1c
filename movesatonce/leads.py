"""Leads: pairs (goal, source) of boxes, done all at once, and their rings."""

from movesatonce.errors import BadLead

FEWEST_BOXES = 1
MOST_BOXES = 10


def is_count(boxes):
    """Tell whether there may be so many boxes."""
    return FEWEST_BOXES <= boxes <= MOST_BOXES


def check_boxes(boxes):
    """Refuse a count of boxes beyond 1 to 10."""
    if not is_count(boxes):
        raise BadLead("there are 1 to 10 boxes")


def is_box(boxes, box):
    """Tell whether one of so many boxes has this number."""
    return 0 <= box < boxes


def check_lead(boxes, lead):
    """Refuse a count of boxes beyond 1 to 10, and what is no lead of that many."""
    check_boxes(boxes)
    goals = set()
    for pair in lead:
        if len(pair) != 2:
            raise BadLead("a pair is a goal and a source")
        goal, source = pair
        if not is_box(boxes, goal) or not is_box(boxes, source):
            raise BadLead("a pair tells a box that there isn't")
        if goal in goals:
            raise BadLead("a goal is told twice")
        goals.add(goal)


def real_pairs(lead):
    """Tell the pairs that lead a box to another one."""
    return [(goal, source) for goal, source in lead if goal != source]


def at_once(worths, lead):
    """Tell the worths when each goal has what its source had ahead."""
    check_lead(len(worths), lead)
    held = list(worths)
    for goal, source in lead:
        # From worths, not from held: a source may be a goal that is written already.
        held[goal] = worths[source]
    return held


def ring_from(box, sources):
    """Tell the ring that a box is in, from this box on; () where it is in none."""
    path = [box]
    source = sources.get(box)
    while source is not None and source not in path:
        path.append(source)
        source = sources.get(source)
    # A path may also end in a ring further back, which this box is fed by but not in.
    if source != box:
        return ()
    # The path goes from goals back to sources, a ring from sources on to goals.
    return (box, *path[:0:-1])


def rings(boxes, lead):
    """Tell all rings of a lead, rising, each from its least box on."""
    check_lead(boxes, lead)
    sources = dict(real_pairs(lead))
    candidates = [ring_from(box, sources) for box in range(boxes)]
    # Each ring is found once from each of its boxes.
    return [ring for ring in candidates if ring and ring[0] == min(ring)]


def is_shut(ring, lead):
    """Tell whether no box of a ring is the source of a goal outside of it."""
    return all([goal in ring or source not in ring for goal, source in lead])


def shut_rings(boxes, lead):
    """Tell the rings of a lead that hand nothing outwards, rising."""
    return [ring for ring in rings(boxes, lead) if is_shut(ring, lead)]
