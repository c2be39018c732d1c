"""Single moves: copies and swaps, one behind the other, and whether they do a lead."""

from movesatonce.errors import BadMove, BadSpare
from movesatonce.leads import at_once, check_boxes, check_lead, is_box, real_pairs


def can_be(boxes, move):
    """Tell whether this is a copy or a swap of two unlike ones of so many boxes."""
    if len(move) != 3:
        return False
    word, one, other = move
    if word != "copy" and word != "swap":
        return False
    return is_box(boxes, one) and is_box(boxes, other) and one != other


def check_moves(boxes, moves):
    """Refuse the first move that can't be, by its number."""
    for number, move in enumerate(moves):
        if not can_be(boxes, move):
            raise BadMove(number)


def do_move(held, move):
    """Do a single move to the worths that boxes hold."""
    word, one, other = move
    if word == "swap":
        held[one], held[other] = held[other], held[one]
    else:
        held[one] = held[other]


def moved(worths, moves):
    """Tell the worths behind all moves, one behind the other."""
    check_boxes(len(worths))
    check_moves(len(worths), moves)
    held = list(worths)
    for move in moves:
        do_move(held, move)
    return held


def check_spares(boxes, lead, spares):
    """Refuse spares that are busy in a lead, told twice, or that there aren't."""
    busy = [box for pair in real_pairs(lead) for box in pair]
    for place, spare in enumerate(spares):
        if not is_box(boxes, spare):
            raise BadSpare("a spare is a box that there isn't")
        if spare in busy:
            raise BadSpare("a spare is a goal or a source of a real pair")
        if spare in spares[:place]:
            raise BadSpare("a spare is told twice")


def does(boxes, lead, spares, moves):
    """Tell whether the moves do a lead beside its spares, whatever the boxes hold."""
    check_lead(boxes, lead)
    check_spares(boxes, lead, spares)
    # Moves carry worths and never look at one, so unlike worths stand for any.
    worths = list(range(boxes))
    wanted = at_once(worths, lead)
    held = moved(worths, moves)
    return all([held[box] == wanted[box] for box in range(boxes) if box not in spares])
