import copy
import itertools
import unittest

from movesatonce import singles
from movesatonce.errors import BadLead, BadMove, BadSpare
from movesatonce.leads import at_once
from movesatonce.singles import does, moved
from tests.test_leads import HUGE, all_leads

# Of three boxes, each kind of move that can't be.
WRONG = [
    (),
    ("copy",),
    ("swap",),
    ("copy", 0),
    ("swap", 1),
    ("copy", 0, 1, 2),
    ("swap", 0, 1, 2),
    ("move", 0, 1),
    ("Copy", 0, 1),
    ("copy ", 0, 1),
    ("", 0, 1),
    ("push", 0),
    ("call",),
    ("copy", 0, 0),
    ("swap", 2, 2),
    ("copy", -1, 0),
    ("copy", 0, -1),
    ("swap", -1, 0),
    ("swap", 0, -3),
    ("copy", 3, 0),
    ("copy", 0, 3),
    ("swap", 3, 0),
    ("swap", 0, 11),
    ("copy", HUGE, 0),
    ("copy", 0, HUGE),
    ("swap", -HUGE, 0),
    ("swap", 0, -HUGE),
]
GOOD = [("copy", 0, 1), ("swap", 1, 2), ("copy", 2, 0)]


class TestMoved(unittest.TestCase):
    def test_a_copy(self):
        self.assertEqual(moved([5, 6, 7], [("copy", 0, 2)]), [7, 6, 7])
        self.assertEqual(moved([5, 6, 7], [("copy", 2, 0)]), [5, 6, 5])

    def test_a_swap(self):
        self.assertEqual(moved([5, 6, 7], [("swap", 0, 2)]), [7, 6, 5])
        self.assertEqual(moved([5, 6, 7], [("swap", 2, 0)]), [7, 6, 5])

    def test_one_behind_the_other(self):
        self.assertEqual(moved([5, 6, 7], [("copy", 1, 0), ("copy", 2, 1)]), [5, 5, 5])
        self.assertEqual(moved([5, 6, 7], [("swap", 0, 1), ("swap", 1, 2)]), [6, 7, 5])
        self.assertEqual(moved([5, 6, 7], [("copy", 0, 1), ("swap", 0, 2)]), [7, 6, 6])
        self.assertEqual(moved([5, 6, 7], [("swap", 0, 2), ("copy", 0, 1)]), [6, 6, 5])

    def test_the_same_move_again(self):
        self.assertEqual(moved([5, 6], [("swap", 0, 1), ("swap", 0, 1)]), [5, 6])
        self.assertEqual(moved([5, 6], [("copy", 0, 1), ("copy", 0, 1)]), [6, 6])

    def test_no_moves(self):
        self.assertEqual(moved([5], []), [5])
        self.assertEqual(moved([5, 6], []), [5, 6])

    def test_ten_boxes(self):
        turn = [("swap", box, box + 1) for box in range(9)]
        self.assertEqual(moved(list(range(10)), turn), [1, 2, 3, 4, 5, 6, 7, 8, 9, 0])
        self.assertEqual(moved(list(range(10)), [("copy", 9, 0)])[9], 0)

    def test_worths_of_thirty_figures_and_below_0(self):
        moves = [("swap", 0, 1), ("copy", 2, 0)]
        self.assertEqual(moved([HUGE, -HUGE, 0], moves), [-HUGE, HUGE, -HUGE])

    def test_moves_that_cannot_be_at_any_place(self):
        for wrong in WRONG:
            for ahead in range(len(GOOD) + 1):
                moves = GOOD[:ahead] + [wrong] + GOOD[ahead:]
                with self.subTest(wrong=wrong, ahead=ahead):
                    with self.assertRaises(BadMove) as caught:
                        moved([5, 6, 7], moves)
                    self.assertEqual(caught.exception.number, ahead)

    def test_the_first_one_counts(self):
        for first, second in itertools.product(WRONG, repeat=2):
            with self.subTest(first=first, second=second):
                with self.assertRaises(BadMove) as caught:
                    moved([5, 6, 7], [GOOD[0], first, GOOD[1], second, ()])
                self.assertEqual(caught.exception.number, 1)

    def test_one_box_has_no_moves(self):
        for move in (("copy", 0, 0), ("swap", 0, 0), ("copy", 0, 1), ("swap", 1, 0)):
            with self.subTest(move):
                with self.assertRaises(BadMove) as caught:
                    moved([5], [move])
                self.assertEqual(caught.exception.number, 0)

    def test_the_last_box_of_ten_and_the_one_behind(self):
        self.assertEqual(moved(list(range(10)), [("copy", 0, 9)])[0], 9)
        with self.assertRaises(BadMove) as caught:
            moved(list(range(10)), [("copy", 0, 9), ("copy", 0, 10)])
        self.assertEqual(caught.exception.number, 1)

    def test_counts_of_boxes(self):
        for worths in ([], list(range(11)), list(range(40))):
            with self.subTest(len(worths)):
                self.assertRaises(BadLead, moved, worths, [])
                self.assertRaises(BadLead, moved, worths, [("copy", 0, 1)])

    def test_counts_of_boxes_ahead_of_moves(self):
        for worths in ([], list(range(11))):
            for wrong in WRONG:
                with self.subTest(len(worths), wrong=wrong):
                    self.assertRaises(BadLead, moved, worths, [wrong])


def does_by_words(boxes, lead, spares, moves):
    """Whether the moves do the lead for each filling with two unlike worths."""
    for worths in itertools.product((0, 1), repeat=boxes):
        wanted = at_once(list(worths), lead)
        held = moved(list(worths), moves)
        if any(held[box] != wanted[box] for box in range(boxes) if box not in spares):
            return False
    return True


def all_moves(boxes, most):
    """Every list of at most so many moves."""
    pairs = list(itertools.permutations(range(boxes), 2))
    moves = [(word, *pair) for word in ("copy", "swap") for pair in pairs]
    for many in range(most + 1):
        for row in itertools.product(moves, repeat=many):
            yield list(row)


def free_boxes(boxes, lead):
    busy = {box for goal, source in lead if goal != source for box in (goal, source)}
    return [box for box in range(boxes) if box not in busy]


class TestDoes(unittest.TestCase):
    def yes(self, *handed):
        self.assertIs(does(*handed), True)

    def no(self, *handed):
        self.assertIs(does(*handed), False)

    def test_copies_that_do_and_that_do_not(self):
        lead = [(1, 0), (2, 1)]
        self.yes(3, lead, [], [("copy", 2, 1), ("copy", 1, 0)])
        self.no(3, lead, [], [("copy", 1, 0), ("copy", 2, 1)])
        self.no(3, lead, [], [("copy", 2, 1)])
        self.no(3, lead, [], [])

    def test_swaps_that_do_and_that_do_not(self):
        lead = [(0, 1), (1, 2), (2, 0)]
        self.yes(3, lead, [], [("swap", 0, 1), ("swap", 1, 2)])
        self.no(3, lead, [], [("swap", 1, 2), ("swap", 0, 1)])

    def test_the_empty_lead(self):
        self.yes(1, [], [], [])
        self.yes(10, [], [], [])
        self.yes(1, [], [0], [])
        self.yes(3, [], [], [("swap", 0, 1), ("swap", 1, 0)])
        self.no(3, [], [], [("copy", 0, 1)])

    def test_a_box_led_to_itself_stays(self):
        self.yes(2, [(0, 0)], [], [])
        self.no(2, [(0, 0)], [], [("copy", 0, 1)])
        self.yes(2, [(0, 0)], [0], [("copy", 0, 1)])

    def test_only_by_means_of_a_spare(self):
        ring = [(0, 1), (1, 0)]
        moves = [("copy", 2, 0), ("copy", 0, 1), ("copy", 1, 2)]
        self.yes(3, ring, [2], moves)
        self.no(3, ring, [], moves)
        self.no(4, ring, [3], moves)
        self.yes(4, ring, [3, 2], moves)

    def test_a_spoiled_spare_does_not_count(self):
        self.yes(3, [(1, 0)], [2], [("copy", 1, 0), ("copy", 2, 1)])
        self.yes(3, [(1, 0)], [2], [("swap", 2, 1), ("copy", 1, 0)])
        self.no(3, [(1, 0)], [], [("copy", 1, 0), ("copy", 2, 1)])
        self.no(4, [(1, 0)], [2], [("copy", 1, 0), ("copy", 3, 2)])

    def test_each_box_beside_the_spares_counts(self):
        for box in range(10):
            move = [("copy", box, (box + 1) % 10)]
            self.no(10, [], [], move)
            self.no(10, [], [(box + 1) % 10], move)
            self.yes(10, [], [box], move)

    def test_all_boxes_may_be_spares(self):
        self.yes(3, [(1, 1)], [2, 0, 1], [("copy", 0, 1), ("swap", 1, 2)])

    def test_every_lead_of_three_boxes_and_up_to_two_moves(self):
        rows = list(all_moves(3, 2))
        for lead in all_leads(3):
            free = free_boxes(3, lead)
            for spares in ([], free[:1], free[::-1]):
                for moves in rows:
                    told = does(3, lead, spares, moves)
                    if told is not does_by_words(3, lead, spares, moves):
                        self.fail(f"does(3, {lead}, {spares}, {moves}) told {told}")


class TestDoesRefusals(unittest.TestCase):
    def test_counts_of_boxes(self):
        for boxes in (0, 11, -1, HUGE, -HUGE):
            with self.subTest(boxes):
                self.assertRaises(BadLead, does, boxes, [], [], [])

    def test_bad_leads(self):
        for lead in ([(0, 3)], [(-1, 0)], [(0, 1), (0, 2)], [(1, 1), (1, 1)], [(0, HUGE)]):
            with self.subTest(lead):
                self.assertRaises(BadLead, does, 3, lead, [], [])

    def test_good_spares(self):
        lead = [(1, 0), (3, 3)]
        for spares in ([], [2], [3], [4], [2, 3], [4, 2, 3]):
            with self.subTest(spares):
                self.assertIs(does(5, lead, spares, [("copy", 1, 0)]), True)

    def test_busy_spares(self):
        lead = [(1, 0), (3, 3), (4, 0)]
        for spares in ([0], [1], [4], [2, 0], [1, 2], [3, 4, 2]):
            with self.subTest(spares):
                self.assertRaises(BadSpare, does, 5, lead, spares, [])

    def test_spares_told_twice(self):
        for spares in ([2, 2], [3, 2, 3], [2, 3, 3], [2, 3, 2]):
            with self.subTest(spares):
                self.assertRaises(BadSpare, does, 4, [(1, 0)], spares, [])

    def test_spares_that_there_are_not(self):
        for spare in (-1, -2, 3, 4, HUGE, -HUGE):
            for spares in ([spare], [2, spare], [spare, 2]):
                with self.subTest(spares):
                    self.assertRaises(BadSpare, does, 3, [(1, 0)], spares, [])

    def test_moves_that_cannot_be(self):
        for wrong in WRONG:
            for ahead in range(len(GOOD) + 1):
                moves = GOOD[:ahead] + [wrong] + GOOD[ahead:] + [()]
                with self.subTest(wrong=wrong, ahead=ahead):
                    with self.assertRaises(BadMove) as caught:
                        does(3, [(1, 0)], [2], moves)
                    self.assertEqual(caught.exception.number, ahead)

    def test_the_lead_ahead_of_the_spares(self):
        self.assertRaises(BadLead, does, 0, [], [0], [])
        self.assertRaises(BadLead, does, 11, [], [3, 3], [])
        self.assertRaises(BadLead, does, 3, [(0, 1), (0, 2)], [0], [])
        self.assertRaises(BadLead, does, 3, [(1, 0), (2, 3)], [1], [])

    def test_the_lead_ahead_of_the_moves(self):
        self.assertRaises(BadLead, does, 11, [], [], [()])
        self.assertRaises(BadLead, does, 3, [(0, 1), (0, 2)], [], [()])

    def test_the_spares_ahead_of_the_moves(self):
        for spares in ([0], [2, 2], [3], [-1]):
            with self.subTest(spares):
                self.assertRaises(BadSpare, does, 3, [(1, 0)], spares, [()])

    def test_all_three(self):
        self.assertRaises(BadLead, does, 3, [(3, 0)], [0, 0], [()])


class TestHandedIn(unittest.TestCase):
    def test_nothing_handed_in_is_changed(self):
        worths = [7, 8, 9]
        lead = [(0, 1), (1, 0)]
        spares = [2]
        moves = [("copy", 2, 0), ("swap", 0, 1), ("copy", 2, 0)]
        handed = (worths, lead, spares, moves)
        kept = copy.deepcopy(handed)
        moved(worths, moves)
        does(3, lead, spares, moves)
        self.assertEqual(handed, kept)

    def test_nothing_is_changed_by_a_refusal(self):
        worths = [7, 8, 9]
        spares = [2]
        moves = [("swap", 0, 1), ("copy", 2, 0), ("copy", 0, 0)]
        kept = copy.deepcopy((worths, spares, moves))
        self.assertRaises(BadMove, moved, worths, moves)
        self.assertRaises(BadMove, does, 3, [], spares, moves)
        self.assertRaises(BadSpare, does, 3, [(0, 2)], spares, moves)
        self.assertEqual((worths, spares, moves), kept)

    def test_told_lists_may_be_changed(self):
        for moves in ([], [("swap", 0, 1)], [("copy", 1, 0)]):
            worths = [7, 8, 9]
            first = moved(worths, moves)
            wanted = list(first)
            first.append(1)
            first[0] = 0
            self.assertEqual(worths, [7, 8, 9])
            self.assertEqual(moved(worths, moves), wanted)

    def test_what_was_handed_in_may_be_changed_later(self):
        worths = [7, 8]
        moves = [("swap", 0, 1)]
        lead = [(0, 1), (1, 0)]
        told = moved(worths, moves)
        self.assertIs(does(2, lead, [], moves), True)
        worths[0] = 0
        moves.append(("copy", 0, 1))
        self.assertEqual(told, [8, 7])
        self.assertEqual(moved(worths, moves), [0, 0])
        self.assertIs(does(2, lead, [], moves), False)


class TestInterface(unittest.TestCase):
    def test_each_is_defined_in_singles(self):
        for ask in (singles.moved, singles.does):
            self.assertEqual(ask.__module__, "movesatonce.singles")

    def test_arguments_by_name(self):
        self.assertEqual(moved(worths=[1, 2], moves=[("copy", 0, 1)]), [2, 2])
        self.assertIs(does(boxes=2, lead=[], spares=[1], moves=[("copy", 1, 0)]), True)

    def test_kinds(self):
        self.assertIs(type(moved([1], [])), list)


if __name__ == "__main__":
    unittest.main()
