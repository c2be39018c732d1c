"""Notes: lists of pairs of numbers as texts."""

from movesatonce.errors import BadText

MOST_FIGURES = 3


def written(lead):
    """Tell a list of pairs as a text."""
    return " ".join([f"{goal}<{source}" for goal, source in lead])


def is_number(word):
    """Tell whether a word is a number from 0 to 999 without a needless 0."""
    if not word.isascii() or not word.isdigit() or len(word) > MOST_FIGURES:
        return False
    return word == "0" or not word.startswith("0")


def read_lead(text):
    """Tell the list of pairs that a text was written from."""
    lead = []
    # Without a word there is also no blank, and split would tell one empty word.
    if text == "":
        return lead
    for place, word in enumerate(text.split(" ")):
        # A second sign stays with the source, which is no number by it.
        goal, _, source = word.partition("<")
        if not is_number(goal) or not is_number(source):
            raise BadText(place)
        lead.append((int(goal), int(source)))
    return lead
