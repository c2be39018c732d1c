import collections
import copy
import functools
import itertools
import random
import unittest

from movesatonce import plans
from movesatonce.errors import BadLead, BadSpare, BadWord, NoWay
from movesatonce.leads import at_once, rings, shut_rings
from movesatonce.plans import by_copies, by_swaps, least, paper
from movesatonce.singles import does
from tests.test_leads import HUGE, all_leads, rings_by_words, shut_by_words
from tests.test_singles import free_boxes

RING = [(0, 1), (1, 0)]
BAD_LEADS = [
    [(0, 3)],
    [(3, 0)],
    [(-1, 0)],
    [(0, -1)],
    [(0, HUGE)],
    [(-HUGE, 0)],
    [()],
    [(0,)],
    [(0, 1, 2)],
    [(0, 1), (0, 2)],
    [(1, 1), (1, 1)],
    [(0, 1), (1, 0), (1, 1)],
]
BAD_COUNTS = (0, 11, 12, -1, HUGE, -HUGE)


def real(lead):
    return [(goal, source) for goal, source in lead if goal != source]


def subsets(row):
    for many in range(len(row) + 1):
        yield from itertools.combinations(row, many)


@functools.lru_cache(maxsize=None)
def distances(boxes, words):
    """By search: how many single moves the fewest are to any filling, from unlike worths."""
    pairs = list(itertools.permutations(range(boxes), 2))
    start = tuple(range(boxes))
    found = {start: 0}
    waiting = collections.deque([start])
    while waiting:
        held = waiting.popleft()
        for word in words:
            for one, other in pairs:
                after = list(held)
                after[one] = held[other]
                if word == "swap":
                    after[other] = held[one]
                after = tuple(after)
                if after not in found:
                    found[after] = found[held] + 1
                    waiting.append(after)
    return found


@functools.lru_cache(maxsize=None)
def distances_beside(boxes, words, spares):
    """The same by what all boxes but the spares hold."""
    found = {}
    for held, many in distances(boxes, words).items():
        rest = tuple(held[box] for box in range(boxes) if box not in spares)
        found[rest] = min(many, found.get(rest, many))
    return found


def searched(boxes, lead, words, spares=()):
    """How many the fewest are, or None where none do the lead."""
    wanted = at_once(list(range(boxes)), lead)
    rest = tuple(wanted[box] for box in range(boxes) if box not in spares)
    return distances_beside(boxes, words, tuple(sorted(spares))).get(rest)


def random_lead(chance, boxes):
    goals = chance.sample(range(boxes), chance.randint(0, boxes))
    if chance.random() < 0.5:
        return [(goal, chance.randrange(boxes)) for goal in goals]
    # Rings come by a turned row: unlike goals from the same unlike sources.
    sources = list(goals)
    chance.shuffle(sources)
    lead = list(zip(goals, sources))
    for box in range(boxes):
        if box not in goals and chance.random() < 0.4:
            lead.append((box, chance.randrange(boxes)))
    chance.shuffle(lead)
    return lead


class TestByCopies(unittest.TestCase):
    def done(self, boxes, lead, spares, many):
        moves = by_copies(boxes, lead, spares)
        self.assertIs(type(moves), list)
        for move in moves:
            self.assertIs(type(move), tuple)
            self.assertEqual(move[0], "copy")
        self.assertIs(does(boxes, lead, spares, moves), True, (boxes, lead, spares, moves))
        self.assertEqual(len(moves), many, (boxes, lead, spares, moves))

    def no_way(self, boxes, lead, spares=()):
        with self.subTest(boxes=boxes, lead=lead):
            self.assertRaises(NoWay, by_copies, boxes, lead, list(spares))

    def test_nothing_to_do(self):
        self.assertEqual(by_copies(1, [], []), [])
        self.assertEqual(by_copies(10, [], [3]), [])
        self.assertEqual(by_copies(1, [(0, 0)], []), [])
        self.assertEqual(by_copies(3, [(0, 0), (2, 2)], [2]), [])

    def test_one_way_only(self):
        self.assertEqual(by_copies(2, [(1, 0)], []), [("copy", 1, 0)])
        self.assertEqual(by_copies(3, [(1, 0), (2, 1)], []), [("copy", 2, 1), ("copy", 1, 0)])
        self.assertEqual(by_copies(3, [(2, 1), (1, 0)], []), [("copy", 2, 1), ("copy", 1, 0)])

    def test_chains_and_trees(self):
        self.done(4, [(1, 0), (2, 0), (3, 0)], [], 3)
        self.done(4, [(0, 1), (1, 2), (2, 3)], [], 3)
        self.done(7, [(1, 0), (2, 0), (3, 1), (4, 1), (5, 2), (6, 2)], [], 6)
        self.done(10, [(box, box - 1) for box in range(1, 10)], [], 9)
        self.done(10, [(box, box + 1) for box in range(9)], [], 9)

    def test_a_shut_ring_by_a_spare(self):
        self.done(3, RING, [2], 3)
        self.done(4, [(1, 0), (2, 1), (0, 2)], [3], 4)
        self.done(10, [(box, (box + 1) % 9) for box in range(9)], [9], 10)
        self.done(10, [(box, (box + 8) % 9) for box in range(9)], [9], 10)

    def test_several_shut_rings_by_one_spare(self):
        self.done(5, [*RING, (2, 3), (3, 2)], [4], 6)
        self.done(10, [*RING, (2, 3), (3, 2), (4, 6), (6, 8), (8, 4)], [9], 10)

    def test_any_spare_will_do(self):
        for spares in ([2], [3], [2, 3], [3, 2]):
            self.done(4, RING, spares, 3)
        self.done(3, [*RING, (2, 2)], [2], 3)

    def test_a_shut_ring_by_a_goal_that_is_no_source(self):
        self.done(4, [*RING, (3, 2)], [], 4)
        self.done(5, [(4, 3), (3, 2), *RING], [], 5)
        self.done(6, [*RING, (2, 3), (3, 2), (4, 5)], [], 7)
        self.done(10, [*RING, (2, 3), (3, 2), (5, 6), (6, 5), (9, 8), (8, 7)], [], 11)

    def test_a_ring_that_hands_outwards_needs_no_box_aside(self):
        self.done(3, [*RING, (2, 0)], [], 3)
        self.done(3, [*RING, (2, 1)], [], 3)
        self.done(6, [(1, 0), (2, 1), (0, 2), (3, 1), (4, 3), (5, 0)], [], 6)

    def test_a_shut_ring_beside_one_that_hands_outwards(self):
        self.done(5, [*RING, (3, 2), (2, 3), (4, 2)], [], 6)
        self.done(6, [*RING, (3, 2), (2, 3), (4, 2)], [5], 6)

    def test_a_spare_that_is_not_needed(self):
        self.done(4, [(1, 0), (2, 1)], [3], 2)
        self.done(4, [*RING, (2, 1)], [3], 3)

    def test_no_way(self):
        self.no_way(2, RING)
        self.no_way(3, [(1, 0), (2, 1), (0, 2)])
        self.no_way(4, [*RING, (2, 3), (3, 2)])
        self.no_way(10, [(box, (box + 1) % 10) for box in range(10)])

    def test_no_way_beside_boxes_that_are_no_spares(self):
        self.no_way(3, RING)
        self.no_way(10, RING)
        self.no_way(3, [*RING, (2, 2)])
        self.no_way(4, [(3, 3), *RING, (2, 2)])

    def test_fewer_do_not_do(self):
        for boxes in (1, 2, 3, 4):
            for lead in all_leads(boxes):
                for spares in subsets(free_boxes(boxes, lead)):
                    many = searched(boxes, lead, ("copy",), spares)
                    if many is None:
                        self.no_way(boxes, lead, spares)
                    else:
                        self.done(boxes, lead, list(spares[::-1]), many)

    def test_fewer_do_not_do_for_five_boxes(self):
        for lead in all_leads(5):
            if any(goal == source for goal, source in lead):
                continue
            for spares in {(), tuple(free_boxes(5, lead)[:1])}:
                many = searched(5, lead, ("copy",), spares)
                if many is None:
                    self.no_way(5, lead, spares)
                else:
                    self.done(5, lead, list(spares), many)

    def test_leads_of_one_to_ten_boxes(self):
        chance = random.Random(6)
        for _ in range(4000):
            boxes = chance.randint(1, 10)
            lead = random_lead(chance, boxes)
            free = free_boxes(boxes, lead)
            spares = chance.sample(free, chance.randint(0, len(free)))
            shut = shut_rings(boxes, lead)
            sources = [source for _, source in real(lead)]
            if shut and not spares and all(goal in sources for goal, _ in real(lead)):
                self.no_way(boxes, lead)
            else:
                self.done(boxes, lead, spares, len(real(lead)) + len(shut))

    def test_bad_counts(self):
        for boxes in BAD_COUNTS:
            with self.subTest(boxes):
                self.assertRaises(BadLead, by_copies, boxes, [], [])

    def test_bad_leads(self):
        for lead in BAD_LEADS:
            with self.subTest(lead):
                self.assertRaises(BadLead, by_copies, 3, lead, [])

    def test_bad_spares(self):
        lead = [(1, 0), (4, 4)]
        for spares in ([0], [1], [2, 0], [2, 2], [3, 2, 3], [-1], [5], [2, 5], [HUGE], [-HUGE], [4, 4]):
            with self.subTest(spares):
                self.assertRaises(BadSpare, by_copies, 5, lead, spares)

    def test_the_lead_ahead_of_the_spares(self):
        for boxes in BAD_COUNTS:
            self.assertRaises(BadLead, by_copies, boxes, [], [0, 0])
        for lead in BAD_LEADS:
            for spares in ([0], [2, 2], [3], [-1]):
                with self.subTest(lead=lead, spares=spares):
                    self.assertRaises(BadLead, by_copies, 3, lead, spares)

    def test_the_spares_ahead_of_no_way(self):
        for spares in ([0], [1], [2, 2], [2, 1], [3], [-1], [HUGE]):
            with self.subTest(spares):
                self.assertRaises(BadSpare, by_copies, 3, RING, spares)

    def test_the_lead_ahead_of_no_way(self):
        self.assertRaises(BadLead, by_copies, 3, [*RING, (2, 3)], [])
        self.assertRaises(BadLead, by_copies, 3, [*RING, (1, 2)], [])
        self.assertRaises(BadLead, by_copies, 11, RING, [])


class TestBySwaps(unittest.TestCase):
    def done(self, boxes, lead, many):
        moves = by_swaps(boxes, lead)
        self.assertIs(type(moves), list)
        for move in moves:
            self.assertIs(type(move), tuple)
            self.assertIn(move[0], ("copy", "swap"))
        self.assertIs(does(boxes, lead, [], moves), True, (boxes, lead, moves))
        self.assertEqual(len(moves), many, (boxes, lead, moves))

    def test_nothing_to_do(self):
        self.assertEqual(by_swaps(1, []), [])
        self.assertEqual(by_swaps(10, []), [])
        self.assertEqual(by_swaps(1, [(0, 0)]), [])
        self.assertEqual(by_swaps(3, [(1, 1), (0, 0)]), [])

    def test_a_single_pair(self):
        self.assertEqual(by_swaps(2, [(1, 0)]), [("copy", 1, 0)])
        self.assertEqual(by_swaps(10, [(0, 9)]), [("copy", 0, 9)])

    def test_rings(self):
        self.done(2, RING, 1)
        self.done(3, [(1, 0), (2, 1), (0, 2)], 2)
        self.done(3, [(0, 1), (1, 2), (2, 0)], 2)
        self.done(10, [(box, (box + 1) % 10) for box in range(10)], 9)
        self.done(10, [(box, (box + 7) % 10) for box in range(10)], 9)
        self.done(10, [(box, box ^ 1) for box in range(10)], 5)

    def test_chains_and_trees(self):
        self.done(3, [(1, 0), (2, 1)], 2)
        self.done(7, [(1, 0), (2, 0), (3, 1), (4, 1), (5, 2), (6, 2)], 6)

    def test_rings_that_hand_outwards(self):
        self.done(3, [*RING, (2, 0)], 2)
        self.done(5, [*RING, (2, 1), (3, 2), (4, 0)], 4)
        self.done(6, [(1, 0), (2, 1), (0, 2), (3, 1), (4, 3), (5, 5)], 4)

    def test_fewer_do_not_do(self):
        for boxes in (1, 2, 3, 4, 5):
            for lead in all_leads(boxes):
                self.done(boxes, lead, searched(boxes, lead, ("copy", "swap")))

    def test_leads_of_one_to_ten_boxes(self):
        chance = random.Random(7)
        for _ in range(4000):
            boxes = chance.randint(1, 10)
            lead = random_lead(chance, boxes)
            self.done(boxes, lead, len(real(lead)) - len(rings(boxes, lead)))

    def test_bad_leads(self):
        for boxes in BAD_COUNTS:
            self.assertRaises(BadLead, by_swaps, boxes, [])
        for lead in BAD_LEADS:
            with self.subTest(lead):
                self.assertRaises(BadLead, by_swaps, 3, lead)


class TestPaper(unittest.TestCase):
    def test_goals_rise(self):
        self.assertEqual(paper(4, [(3, 0), (1, 0), (2, 2)]), ([1, 3], [], []))
        self.assertEqual(paper(10, [(9, 8), (0, 8), (4, 4), (5, 9)]), ([0, 5, 9], [], []))

    def test_shut_rings_and_all(self):
        self.assertEqual(paper(2, RING), ([0, 1], [(0, 1)], [(0, 1)]))
        lead = [(4, 3), (3, 4), *RING, (2, 1)]
        self.assertEqual(paper(5, lead), ([0, 1, 2, 3, 4], [(3, 4)], [(0, 1), (3, 4)]))
        self.assertEqual(paper(3, [*RING, (2, 0)]), ([0, 1, 2], [], [(0, 1)]))

    def test_nothing_to_show(self):
        self.assertEqual(paper(1, []), ([], [], []))
        self.assertEqual(paper(10, [(7, 7)]), ([], [], []))

    def test_kinds(self):
        told = paper(2, RING)
        self.assertIs(type(told), tuple)
        for part in told:
            self.assertIs(type(part), list)
        for ring in told[1] + told[2]:
            self.assertIs(type(ring), tuple)

    def test_every_lead_of_up_to_four_boxes(self):
        for boxes in (1, 2, 3, 4):
            for lead in all_leads(boxes):
                wanted = (
                    sorted(goal for goal, source in real(lead)),
                    shut_by_words(boxes, lead),
                    rings_by_words(boxes, lead),
                )
                with self.subTest(boxes=boxes, lead=lead):
                    self.assertEqual(paper(boxes, lead), wanted)
                    self.assertEqual(paper(boxes, lead[::-1]), wanted)

    def test_bad_leads(self):
        for boxes in BAD_COUNTS:
            self.assertRaises(BadLead, paper, boxes, [])
        for lead in BAD_LEADS:
            with self.subTest(lead):
                self.assertRaises(BadLead, paper, 3, lead)


class TestLeast(unittest.TestCase):
    def test_both_words(self):
        for boxes, lead, copies, swaps in (
            (1, [], 0, 0),
            (1, [(0, 0)], 0, 0),
            (3, [(1, 0), (2, 1)], 2, 2),
            (3, [*RING, (2, 2)], 3, 1),
            (3, [*RING, (2, 1)], 3, 2),
            (5, [*RING, (2, 3), (3, 2), (4, 3)], 6, 3),
            (10, [(box, (box + 1) % 10) for box in range(10)], 11, 9),
        ):
            with self.subTest(lead):
                self.assertEqual(least(boxes, lead, "copies"), copies)
                self.assertEqual(least(boxes, lead, "swaps"), swaps)

    def test_every_lead_of_up_to_four_boxes(self):
        for boxes in (1, 2, 3, 4):
            for lead in all_leads(boxes):
                with self.subTest(boxes=boxes, lead=lead):
                    # A box more is a spare by which there always are some copies.
                    copies = searched(boxes + 1, lead, ("copy",), (boxes,))
                    self.assertEqual(least(boxes, lead, "copies"), copies)
                    swaps = searched(boxes, lead, ("copy", "swap"))
                    self.assertEqual(least(boxes, lead, "swaps"), swaps)

    def test_bad_words(self):
        for word in ("", "copy", "swap", "Copies", "SWAPS", "copies ", " swaps", "copies swaps", "moves"):
            for lead in ([], RING):
                with self.subTest(word=word, lead=lead):
                    self.assertRaises(BadWord, least, 3, lead, word)

    def test_bad_leads(self):
        for word in ("copies", "swaps"):
            for boxes in BAD_COUNTS:
                self.assertRaises(BadLead, least, boxes, [], word)
            for lead in BAD_LEADS:
                with self.subTest(word=word, lead=lead):
                    self.assertRaises(BadLead, least, 3, lead, word)

    def test_the_lead_ahead_of_the_word(self):
        for boxes in BAD_COUNTS:
            self.assertRaises(BadLead, least, boxes, [], "moves")
        for lead in BAD_LEADS:
            with self.subTest(lead):
                self.assertRaises(BadLead, least, 3, lead, "")


class TestHandedIn(unittest.TestCase):
    LEADS = ([], [(2, 2)], [(2, 1), (0, 1)], [(3, 2), *RING], [*RING, (3, 0), (4, 4)])

    def test_nothing_handed_in_is_changed(self):
        for lead in self.LEADS:
            spares = [4]
            kept = copy.deepcopy((lead, spares))
            by_copies(5, lead, spares)
            by_swaps(5, lead)
            paper(5, lead)
            least(5, lead, "copies")
            least(5, lead, "swaps")
            with self.subTest(lead):
                self.assertEqual((lead, spares), kept)

    def test_nothing_is_changed_by_a_refusal(self):
        lead = [(1, 0), (0, 1), (2, 2)]
        spares = []
        kept = copy.deepcopy(lead)
        self.assertRaises(NoWay, by_copies, 3, lead, spares)
        self.assertRaises(BadSpare, by_copies, 3, lead, [0])
        self.assertRaises(BadLead, by_swaps, 2, lead)
        self.assertRaises(BadWord, least, 3, lead, "moves")
        self.assertEqual((lead, spares), (kept, []))

    def test_told_lists_may_be_changed(self):
        for ask in (lambda lead: by_copies(5, lead, [4]), lambda lead: by_swaps(5, lead)):
            for lead in self.LEADS:
                pairs = copy.deepcopy(lead)
                first = ask(lead)
                wanted = list(first)
                first.append("more")
                first[0] = "other"
                self.assertEqual(ask(lead), wanted)
                self.assertEqual(lead, pairs)

    def test_the_lists_of_a_paper_may_be_changed(self):
        for lead in self.LEADS:
            wanted = copy.deepcopy(paper(5, lead))
            for place in range(3):
                told = paper(5, lead)
                told[place].append("more")
                self.assertEqual(told[place][:-1], wanted[place])
                for other in range(3):
                    if other != place:
                        self.assertEqual(told[other], wanted[other])
            self.assertEqual(paper(5, lead), wanted)

    def test_what_was_handed_in_may_be_changed_later(self):
        lead = list(RING)
        spares = [2]
        told = (by_copies(3, lead, spares), by_swaps(3, lead), paper(3, lead))
        wanted = copy.deepcopy(told)
        lead.append((2, 0))
        spares.clear()
        self.assertEqual(told, wanted)
        self.assertEqual(len(by_copies(3, lead, spares)), 3)
        self.assertEqual(paper(3, lead), ([0, 1, 2], [], [(0, 1)]))


class TestInterface(unittest.TestCase):
    def test_each_is_defined_in_plans(self):
        for ask in (plans.by_copies, plans.by_swaps, plans.paper, plans.least):
            self.assertEqual(ask.__module__, "movesatonce.plans")

    def test_arguments_by_name(self):
        self.assertEqual(by_copies(boxes=2, lead=[(1, 0)], spares=[]), [("copy", 1, 0)])
        self.assertEqual(by_swaps(boxes=2, lead=[(1, 0)]), [("copy", 1, 0)])
        self.assertEqual(paper(boxes=2, lead=[(1, 0)]), ([1], [], []))
        self.assertEqual(least(boxes=2, lead=[(1, 0)], word="swaps"), 1)


if __name__ == "__main__":
    unittest.main()
