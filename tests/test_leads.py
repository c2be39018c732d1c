import copy
import itertools
import unittest

from movesatonce import leads
from movesatonce.errors import BadLead
from movesatonce.leads import at_once, rings, shut_rings

HUGE = 10 ** 30 - 1


def by_boxes(ask):
    """ask, with a count of boxes in place of a list of worths."""
    if ask is at_once:
        return lambda boxes, lead: at_once(list(range(100, 100 + boxes)), lead)
    return ask


ALL = [(ask.__name__, by_boxes(ask)) for ask in (at_once, rings, shut_rings)]


def all_leads(boxes):
    """Every lead of so many boxes, with its pairs by rising goals."""
    choices = [None, *range(boxes)]
    for sources in itertools.product(choices, repeat=boxes):
        yield [(goal, source) for goal, source in enumerate(sources) if source is not None]


def rings_by_words(boxes, lead):
    """All rings as the document words them: every row of boxes is tried."""
    found = []
    for size in range(2, boxes + 1):
        for row in itertools.permutations(range(boxes), size):
            steps = zip(row, row[1:] + row[:1])
            if row[0] == min(row) and all((goal, source) in lead for source, goal in steps):
                found.append(row)
    return sorted(found)


def shut_by_words(boxes, lead):
    found = []
    for ring in rings_by_words(boxes, lead):
        fed = {goal for goal, source in lead if source in ring}
        if fed <= set(ring):
            found.append(ring)
    return found


class TestAtOnce(unittest.TestCase):
    def test_goals_have_what_their_sources_had(self):
        self.assertEqual(at_once([5, 6, 7], [(0, 2)]), [7, 6, 7])
        self.assertEqual(at_once([5, 6, 7], [(2, 1), (0, 1)]), [6, 6, 6])

    def test_sources_count_as_they_were_ahead(self):
        self.assertEqual(at_once([5, 6, 7], [(1, 0), (2, 1)]), [5, 5, 6])
        self.assertEqual(at_once([5, 6, 7], [(2, 1), (1, 0)]), [5, 5, 6])
        self.assertEqual(at_once([5, 6], [(0, 1), (1, 0)]), [6, 5])
        self.assertEqual(at_once([5, 6, 7, 8], [(1, 0), (2, 1), (0, 2), (3, 0)]), [7, 5, 6, 5])

    def test_the_empty_lead_leaves_all(self):
        self.assertEqual(at_once([3], []), [3])
        self.assertEqual(at_once([3, 3, 4], []), [3, 3, 4])

    def test_a_box_led_to_itself_keeps_its_worth(self):
        self.assertEqual(at_once([5], [(0, 0)]), [5])
        self.assertEqual(at_once([5, 6, 7], [(1, 1), (0, 1), (2, 2)]), [6, 6, 7])

    def test_one_box_and_ten(self):
        self.assertEqual(at_once([9], []), [9])
        turned = [(goal, (goal + 1) % 10) for goal in range(10)]
        self.assertEqual(at_once(list(range(10)), turned), [1, 2, 3, 4, 5, 6, 7, 8, 9, 0])

    def test_worths_of_thirty_figures_and_below_0(self):
        self.assertEqual(at_once([HUGE, -HUGE, 0], [(0, 1), (2, 0)]), [-HUGE, -HUGE, HUGE])

    def test_every_lead_of_three_boxes(self):
        worths = [11, 22, 33]
        for lead in all_leads(3):
            table = dict(lead)
            wanted = [worths[table.get(box, box)] for box in range(3)]
            with self.subTest(lead):
                self.assertEqual(at_once(worths, lead), wanted)
                self.assertEqual(at_once(worths, lead[::-1]), wanted)


class TestRings(unittest.TestCase):
    def test_no_ring(self):
        self.assertEqual(rings(1, []), [])
        self.assertEqual(rings(10, []), [])
        self.assertEqual(rings(3, [(1, 0), (2, 1)]), [])
        self.assertEqual(rings(3, [(0, 2), (1, 2)]), [])

    def test_a_box_led_to_itself_is_no_ring(self):
        self.assertEqual(rings(1, [(0, 0)]), [])
        self.assertEqual(rings(3, [(0, 0), (1, 0), (2, 2)]), [])

    def test_each_box_is_the_source_of_the_next(self):
        self.assertEqual(rings(3, [(1, 0), (2, 1), (0, 2)]), [(0, 1, 2)])
        self.assertEqual(rings(3, [(0, 1), (1, 2), (2, 0)]), [(0, 2, 1)])

    def test_the_least_box_stands_first(self):
        self.assertEqual(rings(9, [(8, 4), (4, 6), (6, 8)]), [(4, 8, 6)])
        self.assertEqual(rings(9, [(6, 8), (8, 4), (4, 6)]), [(4, 8, 6)])

    def test_several_rings_rise(self):
        lead = [(9, 8), (8, 9), (2, 5), (5, 2), (0, 3), (3, 7), (7, 0)]
        self.assertEqual(rings(10, lead), [(0, 7, 3), (2, 5), (8, 9)])
        self.assertEqual(rings(10, lead[::-1]), [(0, 7, 3), (2, 5), (8, 9)])

    def test_boxes_fed_by_a_ring_are_not_in_it(self):
        lead = [(1, 2), (2, 1), (0, 1), (3, 0)]
        self.assertEqual(rings(4, lead), [(1, 2)])

    def test_a_ring_of_ten(self):
        lead = [((box * 3 + 3) % 10, box * 3 % 10) for box in range(10)]
        self.assertEqual(rings(10, lead), [(0, 3, 6, 9, 2, 5, 8, 1, 4, 7)])

    def test_every_lead_of_up_to_four_boxes(self):
        for boxes in (1, 2, 3, 4):
            for lead in all_leads(boxes):
                with self.subTest(boxes=boxes, lead=lead):
                    self.assertEqual(rings(boxes, lead), rings_by_words(boxes, lead))


class TestShutRings(unittest.TestCase):
    def test_none(self):
        self.assertEqual(shut_rings(1, []), [])
        self.assertEqual(shut_rings(3, [(1, 0), (2, 2)]), [])

    def test_a_ring_that_hands_outwards_is_not_shut(self):
        self.assertEqual(shut_rings(3, [(0, 1), (1, 0)]), [(0, 1)])
        self.assertEqual(shut_rings(3, [(0, 1), (1, 0), (2, 0)]), [])
        self.assertEqual(shut_rings(3, [(0, 1), (1, 0), (2, 1)]), [])

    def test_one_hands_outwards_beside_one_that_does_not(self):
        lead = [(5, 4), (4, 5), (0, 1), (1, 0), (3, 1)]
        self.assertEqual(shut_rings(6, lead), [(4, 5)])

    def test_a_box_led_to_itself_opens_no_ring(self):
        self.assertEqual(shut_rings(3, [(0, 2), (2, 0), (1, 1)]), [(0, 2)])

    def test_several_rise(self):
        lead = [(9, 8), (8, 9), (3, 4), (4, 3), (0, 7), (7, 0), (1, 4)]
        self.assertEqual(shut_rings(10, lead), [(0, 7), (8, 9)])

    def test_every_lead_of_up_to_four_boxes(self):
        for boxes in (1, 2, 3, 4):
            for lead in all_leads(boxes):
                with self.subTest(boxes=boxes, lead=lead):
                    self.assertEqual(shut_rings(boxes, lead), shut_by_words(boxes, lead))


class TestBadLeads(unittest.TestCase):
    def refused(self, boxes, lead):
        for name, ask in ALL:
            with self.subTest(name, boxes=boxes, lead=lead):
                with self.assertRaises(BadLead):
                    ask(boxes, lead)

    def test_counts_of_boxes(self):
        self.refused(0, [])
        self.refused(11, [])
        self.refused(0, [(0, 0)])
        self.refused(11, [(1, 0)])

    def test_counts_of_boxes_far_beyond(self):
        for boxes in (-1, -10, 12, -HUGE, HUGE):
            for ask in (rings, shut_rings):
                with self.subTest(ask.__name__, boxes=boxes):
                    with self.assertRaises(BadLead):
                        ask(boxes, [])

    def test_one_box_and_ten_are_taken(self):
        for name, ask in ALL:
            for boxes in (1, 10):
                with self.subTest(name, boxes=boxes):
                    self.assertIsInstance(ask(boxes, [(boxes - 1, 0)]), list)

    def test_boxes_that_there_are_not(self):
        for box in (-1, -2, -3, 3, 4, HUGE, -HUGE):
            self.refused(3, [(box, 0)])
            self.refused(3, [(0, box)])
            self.refused(3, [(box, box)])
            self.refused(3, [(0, 1), (1, 0), (2, box)])
            self.refused(3, [(box, 2), (0, 1), (1, 0)])

    def test_other_than_two_parts(self):
        self.refused(3, [()])
        self.refused(3, [(0,)])
        self.refused(3, [(0, 1, 2)])
        self.refused(3, [(0, 1), (1, 0, 2)])

    def test_a_goal_told_twice(self):
        self.refused(3, [(0, 1), (0, 2)])
        self.refused(3, [(0, 1), (0, 1)])
        self.refused(3, [(0, 0), (0, 1)])
        self.refused(3, [(2, 1), (1, 0), (2, 2)])
        self.refused(1, [(0, 0), (0, 0)])

    def test_a_source_may_be_told_twice(self):
        for name, ask in ALL:
            with self.subTest(name):
                self.assertIsInstance(ask(3, [(0, 1), (2, 1)]), list)


class TestHandedIn(unittest.TestCase):
    def test_nothing_handed_in_is_changed(self):
        for lead in ([], [(0, 0)], [(0, 1), (1, 0), (2, 2)], [(2, 1), (0, 1)]):
            worths = [7, 8, 9]
            told = copy.deepcopy(lead)
            at_once(worths, lead)
            rings(3, lead)
            shut_rings(3, lead)
            with self.subTest(lead):
                self.assertEqual(worths, [7, 8, 9])
                self.assertEqual(lead, told)

    def test_nothing_is_changed_by_a_refusal(self):
        worths = [7, 8, 9]
        lead = [(0, 1), (0, 2)]
        for ask in (lambda: at_once(worths, lead), lambda: rings(3, lead), lambda: shut_rings(3, lead)):
            self.assertRaises(BadLead, ask)
        self.assertEqual(worths, [7, 8, 9])
        self.assertEqual(lead, [(0, 1), (0, 2)])

    def test_told_lists_may_be_changed(self):
        lead = [(0, 1), (1, 0), (2, 2)]
        for ask in (rings, shut_rings, lambda boxes, pairs: at_once([7, 8, 9], pairs)):
            first = ask(3, lead)
            wanted = list(first)
            first.append("more")
            first[0] = "other"
            self.assertEqual(ask(3, lead), wanted)

    def test_the_told_list_is_not_the_one_handed_in(self):
        for lead in ([], [(1, 1)], [(0, 1)]):
            worths = [7, 7, 7]
            at_once(worths, lead).append(1)
            self.assertEqual(worths, [7, 7, 7])

    def test_what_was_handed_in_may_be_changed_later(self):
        lead = [(0, 1), (1, 0)]
        worths = [7, 8, 9]
        told = at_once(worths, lead)
        found = rings(3, lead)
        shut = shut_rings(3, lead)
        worths[0] = 0
        lead.append((2, 0))
        self.assertEqual((told, found, shut), ([8, 7, 9], [(0, 1)], [(0, 1)]))
        self.assertEqual(at_once(worths, lead), [8, 0, 0])
        self.assertEqual(rings(3, lead), [(0, 1)])
        self.assertEqual(shut_rings(3, lead), [])


class TestInterface(unittest.TestCase):
    def test_each_is_defined_in_leads(self):
        for ask in (leads.at_once, leads.rings, leads.shut_rings):
            self.assertEqual(ask.__module__, "movesatonce.leads")

    def test_arguments_by_name(self):
        self.assertEqual(at_once(worths=[1, 2], lead=[(0, 1)]), [2, 2])
        self.assertEqual(rings(boxes=2, lead=[(0, 1), (1, 0)]), [(0, 1)])
        self.assertEqual(shut_rings(boxes=2, lead=[(0, 1), (1, 0)]), [(0, 1)])

    def test_kinds(self):
        for told in (rings(2, [(0, 1), (1, 0)]), shut_rings(2, [(0, 1), (1, 0)])):
            self.assertIs(type(told), list)
            self.assertIs(type(told[0]), tuple)
        self.assertIs(type(at_once([1], [])), list)


if __name__ == "__main__":
    unittest.main()
