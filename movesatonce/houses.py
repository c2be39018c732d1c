"""Houses: how a call is handed its worths, and what the called one sees."""

from movesatonce.errors import BadCall, BadHouse, BadMove
from movesatonce.leads import is_box, is_count, real_pairs
from movesatonce.plans import by_swaps
from movesatonce.singles import can_be, do_move

MOST_INS = 4
MOST_ARGS = 8


def are_boxes(boxes, row):
    """Tell whether a row tells nothing but some of so many boxes."""
    return all([is_box(boxes, box) for box in row])


def is_rising(row):
    """Tell whether each number is above the one ahead of it."""
    return all([low < high for low, high in zip(row, row[1:])])


def check_house(boxes, house):
    """Refuse a count of boxes beyond 1 to 10, and what is no house of that many."""
    if not is_count(boxes):
        raise BadHouse("there are 1 to 10 boxes")
    if len(house) != 3:
        raise BadHouse("a house is ins, out and kept")
    ins, out, kept = house
    if not 1 <= len(ins) <= MOST_INS:
        raise BadHouse("there are one to four ins")
    if not are_boxes(boxes, [*ins, out, *kept]):
        raise BadHouse("a house tells a box that there isn't")
    if len(set(ins)) != len(ins):
        raise BadHouse("an in is told twice")
    if not is_rising(kept):
        raise BadHouse("kept boxes rise")
    if out in kept:
        raise BadHouse("out is kept")


def check_call(boxes, args, goal, alive):
    """Refuse what is no call."""
    if len(args) > MOST_ARGS:
        raise BadCall("there are at most eight args")
    if not are_boxes(boxes, [*args, goal, *alive]):
        raise BadCall("a call tells a box that there isn't")
    if not is_rising(alive):
        raise BadCall("alive boxes rise")
    if goal in alive:
        raise BadCall("the goal is alive")


def saved_boxes(lead, kept, alive):
    """Tell the alive boxes that the call, or the lead ahead of it, takes the worth of."""
    written_over = [goal for goal, source in real_pairs(lead)]
    return [box for box in alive if box not in kept or box in written_over]


def handing(boxes, house, args, goal, alive):
    """Tell the steps of a call, in turn."""
    check_house(boxes, house)
    check_call(boxes, args, goal, alive)
    ins, out, kept = house
    lead = list(zip(ins, args))
    saved = saved_boxes(lead, kept, alive)
    beyond = args[len(ins):]
    steps = [("push", box) for box in saved]
    steps.extend([("push", box) for box in beyond[::-1]])
    steps.extend(by_swaps(boxes, lead))
    steps.append(("call",))
    if goal != out:
        steps.append(("copy", goal, out))
    steps.extend([("pop", box) for box in saved[::-1]])
    return steps


def is_step(boxes, step):
    """Tell whether this is a step by its word and its boxes, whatever lies on the pile."""
    if len(step) == 1:
        return step[0] == "call"
    if len(step) == 2:
        return step[0] in ("push", "pop") and is_box(boxes, step[1])
    return can_be(boxes, step)


def is_due(step, height, calls, over):
    """Tell whether a step can be on a pile of this height, behind so many calls."""
    if step[0] == "pop":
        return height > 0
    if step[0] == "call":
        return calls == 0 and 0 <= over <= height
    return True


def do_step(held, laid, step):
    """Do a step that is no call to what the boxes hold and what lies on the pile."""
    if step[0] == "push":
        laid.append(held[step[1]])
    elif step[0] == "pop":
        held[step[1]] = laid.pop()
    else:
        do_move(held, step)


def behind_call(held, house, given, lost):
    """Tell what the boxes hold behind the call."""
    _, out, kept = house
    left = [held[box] if box in kept else lost[box] for box in range(len(held))]
    left[out] = given
    return left


def called(worths, pile, steps, house, given, lost, over):
    """Tell the worths, the pile and what the called one saw, behind all steps."""
    check_house(len(worths), house)
    held = list(worths)
    laid = list(pile)
    seen = []
    calls = 0
    for number, step in enumerate(steps):
        if not is_step(len(held), step) or not is_due(step, len(laid), calls, over):
            raise BadMove(number)
        if step[0] == "call":
            calls += 1
            below = len(laid) - over
            taken = laid[below:]
            del laid[below:]
            seen = [held[box] for box in house[0]] + taken[::-1]
            held = behind_call(held, house, given, lost)
        else:
            do_step(held, laid, step)
    return held, laid, seen
