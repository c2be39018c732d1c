import copy
import itertools
import random
import unittest

from movesatonce import houses
from movesatonce.errors import BadCall, BadHouse, BadMove
from movesatonce.houses import called, handing
from movesatonce.plans import least
from movesatonce.singles import does
from tests.test_leads import HUGE
from tests.test_singles import WRONG

HOUSE = ((0, 1), 0, (2,))

# Of three boxes.
BAD_HOUSES = [
    (),
    ((0,),),
    ((0,), 1),
    ((0,), 1, (), ()),
    ((), 0, ()),
    ((), 0, (1,)),
    ((0, 0), 1, ()),
    ((0, 1, 0), 2, ()),
    ((2, 1, 1), 2, ()),
    ((-1,), 0, ()),
    ((0, -1), 0, ()),
    ((3,), 0, ()),
    ((0, 1, 3), 0, ()),
    ((HUGE,), 0, ()),
    ((0, -HUGE), 0, ()),
    ((0,), -1, ()),
    ((0,), 3, ()),
    ((0,), HUGE, ()),
    ((0,), -HUGE, ()),
    ((0,), 1, (-1,)),
    ((0,), 1, (-1, 0)),
    ((0,), 1, (3,)),
    ((0,), 1, (0, 2, 3)),
    ((0,), 1, (2, HUGE)),
    ((0,), 1, (-HUGE, 2)),
    ((0,), 1, (1,)),
    ((0,), 1, (0, 1, 2)),
    ((2,), 0, (0, 1)),
    ((0,), 1, (2, 0)),
    ((0,), 1, (0, 0)),
    ((0,), 1, (0, 2, 2)),
]
GOOD_HOUSES = [
    ((0,), 0, ()),
    ((0,), 1, (0,)),
    ((2, 1, 0), 2, (0, 1)),
    ((1, 2), 0, (1, 2)),
]

# Of four boxes: args, goal, alive.
BAD_CALLS = [
    ([0] * 9, 0, []),
    ([0, 1, 2, 3, 0, 1, 2, 3, 0], 0, [1]),
    ([0] * 40, 0, []),
    ([4], 0, []),
    ([-1], 0, []),
    ([0, 1, 2, 4], 0, []),
    ([0, 1, 2, 3, 0, 1, 2, -1], 0, []),
    ([HUGE], 0, []),
    ([0, -HUGE], 0, []),
    ([0], -1, []),
    ([0], 4, []),
    ([0], HUGE, [1]),
    ([0], -HUGE, []),
    ([0], 0, [-1]),
    ([0], 0, [4]),
    ([0], 0, [1, 2, 3, 4]),
    ([0], 0, [-HUGE]),
    ([0], 0, [1, HUGE]),
    ([0], 0, [0]),
    ([0], 2, [0, 1, 2, 3]),
    ([0], 0, [2, 1]),
    ([0], 0, [1, 3, 2]),
    ([0], 0, [1, 1]),
    ([0], 0, [1, 2, 2]),
]


def tail_steps(house, goal, saved):
    """By point 11's words: the steps from the call on."""
    out = house[1]
    back = [("copy", goal, out)] if goal != out else []
    return [("call",), *back, *[("pop", box) for box in reversed(saved)]]


def saved_by_words(house, args, alive):
    ins, _, kept = house
    written_over = {ins[at] for at in range(min(len(ins), len(args))) if ins[at] != args[at]}
    return [box for box in alive if box not in kept or box in written_over]


def random_call(chance):
    """A count of boxes, a house, args, goal and alive, all as points 9 and 10 want them."""
    boxes = chance.randint(1, 10)
    ins = tuple(chance.sample(range(boxes), chance.randint(1, min(4, boxes))))
    out = chance.randrange(boxes)
    kept = tuple(box for box in range(boxes) if box != out and chance.random() < 0.5)
    if chance.random() < 0.3:
        args = [chance.choice(ins) for _ in range(chance.randint(0, 8))]
    else:
        args = [chance.randrange(boxes) for _ in range(chance.randint(0, 8))]
    goal = chance.choice([out, chance.randrange(boxes)])
    alive = [box for box in range(boxes) if box != goal and chance.random() < 0.6]
    return boxes, (ins, out, kept), args, goal, alive


def small_calls():
    """Every call of one to three boxes with at most two args, of every house."""
    for boxes in (1, 2, 3):
        every = range(boxes)
        rows = [row for many in range(1, boxes + 1) for row in itertools.permutations(every, many)]
        parts = [row for many in range(boxes + 1) for row in itertools.combinations(every, many)]
        args = [list(row) for many in range(3) for row in itertools.product(every, repeat=many)]
        for ins, out, kept, goal, alive in itertools.product(rows, every, parts, every, parts):
            if out not in kept and goal not in alive:
                for row in args:
                    yield boxes, (ins, out, kept), row, goal, list(alive)


class TestHanding(unittest.TestCase):
    def test_an_arg_that_stands_in_its_in(self):
        self.assertEqual(handing(1, ((0,), 0, ()), [0], 0, []), [("call",)])

    def test_no_args(self):
        self.assertEqual(handing(3, HOUSE, [], 0, []), [("call",)])
        self.assertEqual(handing(3, HOUSE, [], 2, []), [("call",), ("copy", 2, 0)])

    def test_alive_boxes_are_pushed_rising_and_popped_the_last_one_first(self):
        self.assertEqual(
            handing(5, ((0,), 0, ()), [], 0, [1, 2, 4]),
            [("push", 1), ("push", 2), ("push", 4), ("call",), ("pop", 4), ("pop", 2), ("pop", 1)],
        )

    def test_alive_boxes_that_are_kept_stay(self):
        self.assertEqual(
            handing(5, ((0,), 0, (1, 3)), [], 0, [1, 2, 3, 4]),
            [("push", 2), ("push", 4), ("call",), ("pop", 4), ("pop", 2)],
        )

    def test_alive_boxes_that_are_kept_and_written_over(self):
        self.assertEqual(
            handing(5, ((3, 1), 0, (1, 3)), [4], 0, [1, 2, 3, 4]),
            [
                ("push", 2),
                ("push", 3),
                ("push", 4),
                ("copy", 3, 4),
                ("call",),
                ("pop", 4),
                ("pop", 3),
                ("pop", 2),
            ],
        )

    def test_an_alive_in_that_is_kept_and_led_to_itself_stays(self):
        self.assertEqual(handing(3, ((1,), 0, (1,)), [1], 0, [1]), [("call",)])

    def test_an_alive_in_that_no_arg_is_for_and_that_is_kept_stays(self):
        self.assertEqual(
            handing(4, ((1, 2), 0, (1, 2)), [3], 0, [1, 2]),
            [("push", 1), ("copy", 1, 3), ("call",), ("pop", 1)],
        )

    def test_args_beyond_the_ins_are_pushed_the_last_one_first(self):
        self.assertEqual(
            handing(5, ((0,), 0, ()), [0, 4, 3, 2], 0, []),
            [("push", 2), ("push", 3), ("push", 4), ("call",)],
        )

    def test_alive_boxes_are_pushed_ahead_of_args(self):
        self.assertEqual(
            handing(5, ((0,), 0, ()), [0, 1, 1], 0, [1, 3]),
            [("push", 1), ("push", 3), ("push", 1), ("push", 1), ("call",), ("pop", 3), ("pop", 1)],
        )

    def test_args_are_pushed_ahead_of_the_moves(self):
        self.assertEqual(
            handing(3, ((0,), 0, ()), [1, 0], 0, []),
            [("push", 0), ("copy", 0, 1), ("call",)],
        )

    def test_one_arg_twice(self):
        steps = handing(4, ((0, 1), 3, ()), [2, 2, 2], 3, [])
        self.assertEqual(steps[0], ("push", 2))
        self.assertEqual(sorted(steps[1:3]), [("copy", 0, 2), ("copy", 1, 2)])
        self.assertEqual(steps[3:], [("call",)])

    def test_args_that_change_places(self):
        steps = handing(3, ((0, 1), 2, ()), [1, 0], 2, [])
        self.assertEqual(len(steps), 2)
        self.assertIn(steps[0], [("swap", 0, 1), ("swap", 1, 0)])
        self.assertEqual(steps[1], ("call",))

    def test_fewer_args_than_ins(self):
        self.assertEqual(
            handing(6, ((3, 1, 0, 2), 5, ()), [4], 5, []),
            [("copy", 3, 4), ("call",)],
        )

    def test_the_goal_is_brought_from_out_ahead_of_the_pops(self):
        self.assertEqual(
            handing(4, ((0,), 1, ()), [0], 3, [1, 2]),
            [("push", 1), ("push", 2), ("call",), ("copy", 3, 1), ("pop", 2), ("pop", 1)],
        )

    def test_the_goal_that_is_out_is_not_copied(self):
        self.assertEqual(
            handing(4, ((0,), 1, ()), [0], 1, [2]),
            [("push", 2), ("call",), ("pop", 2)],
        )

    def test_the_goal_may_be_kept_and_may_be_an_arg(self):
        self.assertEqual(
            handing(3, ((0,), 0, (2,)), [2], 2, []),
            [("copy", 0, 2), ("call",), ("copy", 2, 0)],
        )

    def test_eight_args_and_four_ins(self):
        steps = handing(10, ((0, 1, 2, 3), 0, ()), [0, 1, 2, 3, 9, 8, 7, 6], 0, [])
        self.assertEqual(steps, [("push", 6), ("push", 7), ("push", 8), ("push", 9), ("call",)])

    def by_words(self, boxes, house, args, goal, alive):
        steps = handing(boxes, house, args, goal, alive)
        told = (boxes, house, args, goal, alive, steps)
        saved = saved_by_words(house, args, alive)
        ahead = [("push", box) for box in saved]
        ahead += [("push", args[at]) for at in reversed(range(len(house[0]), len(args)))]
        tail = tail_steps(house, goal, saved)
        lead = list(zip(house[0], args))
        moves = steps[len(ahead):len(steps) - len(tail)]
        self.assertEqual(steps, ahead + moves + tail, told)
        self.assertIs(does(boxes, lead, [], moves), True, told)
        self.assertEqual(len(moves), least(boxes, lead, "swaps"), told)

    def test_every_small_call(self):
        for call in small_calls():
            self.by_words(*call)

    def test_calls_of_one_to_ten_boxes(self):
        chance = random.Random(11)
        for _ in range(4000):
            self.by_words(*random_call(chance))

    def test_kinds(self):
        for call in ((1, ((0,), 0, ()), [], 0, []), (4, ((0, 1), 2, ()), [1, 0, 3], 3, [0])):
            steps = handing(*call)
            self.assertIs(type(steps), list)
            for step in steps:
                self.assertIs(type(step), tuple)


class TestBadHouses(unittest.TestCase):
    def refused(self, boxes, house):
        with self.subTest(boxes=boxes, house=house):
            self.assertRaises(BadHouse, handing, boxes, house, [], 0, [])
            worths = list(range(boxes))
            self.assertRaises(BadHouse, called, worths, [], [], house, 0, worths, 0)

    def test_bad_houses(self):
        for house in BAD_HOUSES:
            self.refused(3, house)

    def test_good_houses(self):
        for house in GOOD_HOUSES:
            with self.subTest(house):
                self.assertEqual(handing(3, house, [], house[1], []), [("call",)])
                told = called([7, 8, 9], [], [], house, 0, [0, 0, 0], 0)
                self.assertEqual(told, ([7, 8, 9], [], []))

    def test_four_ins_and_five(self):
        self.assertEqual(handing(10, ((9, 0, 5, 1), 3, ()), [], 3, []), [("call",)])
        self.refused(10, ((9, 0, 5, 1, 2), 3, ()))
        self.refused(10, (tuple(range(10)), 3, ()))

    def test_counts_of_boxes(self):
        for boxes in (0, 11, 12):
            self.refused(boxes, ((0,), 0, ()))
        for boxes in (-1, HUGE, -HUGE):
            with self.subTest(boxes):
                self.assertRaises(BadHouse, handing, boxes, ((0,), 0, ()), [], 0, [])

    def test_one_box_and_ten(self):
        self.assertEqual(handing(1, ((0,), 0, ()), [], 0, []), [("call",)])
        house = ((9, 8), 9, (0, 1, 2, 3, 4, 5, 6, 7, 8))
        self.assertEqual(handing(10, house, [], 9, []), [("call",)])
        self.refused(9, house)
        self.refused(1, ((0, 1), 0, ()))

    def test_the_house_ahead_of_the_call(self):
        for house in BAD_HOUSES:
            for args, goal, alive in BAD_CALLS:
                self.assertRaises(BadHouse, handing, 3, house, args, goal, alive)
        for boxes in (0, 11, HUGE):
            for args, goal, alive in BAD_CALLS:
                self.assertRaises(BadHouse, handing, boxes, ((0,), 0, ()), args, goal, alive)

    def test_the_house_ahead_of_the_steps(self):
        for house in BAD_HOUSES:
            for step in ((), ("pop", 0), ("call",), ("copy", 0, 0)):
                with self.subTest(house=house, step=step):
                    self.assertRaises(BadHouse, called, [1, 2, 3], [], [step], house, 0, [0, 0, 0], 5)
        for worths in ([], [0] * 11):
            self.assertRaises(BadHouse, called, worths, [], [()], ((0,), 0, ()), 0, worths, 0)


class TestBadCalls(unittest.TestCase):
    def test_bad_calls(self):
        for args, goal, alive in BAD_CALLS:
            for house in (((0,), 0, ()), ((3, 1), 2, (0, 1))):
                with self.subTest(args=args, goal=goal, alive=alive, house=house):
                    self.assertRaises(BadCall, handing, 4, house, args, goal, alive)

    def test_good_calls(self):
        for args, goal, alive in (([], 0, []), ([3] * 8, 3, [0, 1, 2]), ([0, 1], 0, [1, 2, 3])):
            with self.subTest(args=args, goal=goal, alive=alive):
                self.assertIn(("call",), handing(4, ((0,), 0, ()), args, goal, alive))

    def test_the_last_box_of_ten_and_the_one_behind(self):
        house = ((0,), 0, ())
        self.assertIn(("call",), handing(10, house, [9], 8, [9]))
        self.assertRaises(BadCall, handing, 10, house, [10], 8, [9])
        self.assertRaises(BadCall, handing, 10, house, [9], 10, [9])
        self.assertRaises(BadCall, handing, 10, house, [9], 8, [10])


class TestCalled(unittest.TestCase):
    LOST = [70, 71, 72]

    def told(self, worths, pile, steps, over=0, house=HOUSE):
        return called(worths, pile, steps, house, 99, self.LOST, over)

    def test_no_steps(self):
        self.assertEqual(self.told([5, 6, 7], [], []), ([5, 6, 7], [], []))
        self.assertEqual(self.told([5, 6, 7], [1, 2], []), ([5, 6, 7], [1, 2], []))

    def test_push_and_pop(self):
        self.assertEqual(self.told([5, 6, 7], [1], [("push", 2)]), ([5, 6, 7], [1, 7], []))
        self.assertEqual(self.told([5, 6, 7], [1, 2], [("pop", 0)]), ([2, 6, 7], [1], []))
        steps = [("push", 0), ("push", 1), ("pop", 0), ("pop", 1)]
        self.assertEqual(self.told([5, 6, 7], [], steps), ([6, 5, 7], [], []))

    def test_copies_and_swaps(self):
        steps = [("copy", 0, 2), ("swap", 0, 1)]
        self.assertEqual(self.told([5, 6, 7], [], steps), ([6, 7, 7], [], []))

    def test_the_call(self):
        self.assertEqual(self.told([5, 6, 7], [], [("call",)]), ([99, 71, 7], [], [5, 6]))

    def test_kept_boxes_stay_and_out_gets_what_is_given(self):
        for out, kept in itertools.product(range(3), ((), (0,), (1,), (2,), (0, 2), (1, 2))):
            if out not in kept:
                wanted = [worth if box in kept else 70 + box for box, worth in enumerate([5, 6, 7])]
                wanted[out] = 99
                house = ((1,), out, kept)
                with self.subTest(house):
                    self.assertEqual(self.told([5, 6, 7], [], [("call",)], 0, house), (wanted, [], [6]))

    def test_ins_are_seen_in_order(self):
        house = ((2, 0, 1), 1, (0,))
        self.assertEqual(self.told([5, 6, 7], [], [("call",)], 0, house), ([5, 99, 72], [], [7, 5, 6]))

    def test_the_pile_is_seen_the_top_first(self):
        for over, left, taken in ((0, [1, 2, 3], []), (1, [1, 2], [3]), (3, [], [3, 2, 1])):
            with self.subTest(over):
                told = self.told([5, 6, 7], [1, 2, 3], [("call",)], over)
                self.assertEqual(told, ([99, 71, 7], left, [5, 6, *taken]))

    def test_the_pile_counts_as_it_is_at_the_call(self):
        steps = [("push", 2), ("copy", 0, 1), ("call",), ("pop", 1)]
        self.assertEqual(self.told([5, 6, 7], [1, 2], steps, 1), ([99, 2, 7], [1], [6, 6, 7]))
        steps = [("pop", 1), ("call",)]
        self.assertEqual(self.told([5, 6, 7], [1, 2], steps, 1), ([99, 71, 7], [], [5, 2, 1]))

    def test_steps_behind_the_call(self):
        steps = [("push", 0), ("call",), ("copy", 2, 0), ("swap", 0, 1), ("push", 1), ("pop", 2)]
        self.assertEqual(self.told([5, 6, 7], [], steps), ([71, 99, 99], [5], [5, 6]))

    def test_without_a_call_given_lost_and_over_do_not_count(self):
        for over in (-1, 0, 4, HUGE, -HUGE):
            told = self.told([5, 6, 7], [1], [("push", 0)], over)
            self.assertEqual(told, ([5, 6, 7], [1, 5], []))

    def test_one_box_and_ten(self):
        told = called([5], [], [("call",)], ((0,), 0, ()), 1, [2], 0)
        self.assertEqual(told, ([1], [], [5]))
        house = ((9, 0), 9, (0, 8))
        told = called(list(range(10)), [], [("call",), ("push", 9)], house, -1, list(range(20, 30)), 0)
        self.assertEqual(told, ([0, 21, 22, 23, 24, 25, 26, 27, 8, -1], [-1], [9, 0]))

    def test_worths_of_thirty_figures_and_below_0(self):
        steps = [("push", 0), ("call",), ("copy", 1, 0)]
        told = called([HUGE, -HUGE], [-HUGE], steps, ((1, 0), 0, ()), -HUGE, [HUGE, HUGE], 2)
        self.assertEqual(told, ([-HUGE, -HUGE], [], [-HUGE, HUGE, HUGE, -HUGE]))

    def test_kinds(self):
        for steps in ([], [("call",)], [("push", 0), ("call",)]):
            told = self.told([5, 6, 7], [], steps)
            self.assertIs(type(told), tuple)
            self.assertEqual([type(part) for part in told], [list] * 3)


class TestBadSteps(unittest.TestCase):
    # Good for three boxes and any pile; behind them the pile is as it was.
    GOOD = [("push", 0), ("copy", 1, 2), ("pop", 2), ("swap", 0, 1)]
    NEVER = [
        *[wrong for wrong in WRONG if wrong not in (("push", 0), ("call",))],
        ("push",),
        ("pop",),
        ("push", 0, 1),
        ("pop", 1, 2),
        ("call", 0),
        ("call", 0, 1),
        ("Push", 0),
        ("Call",),
        ("",),
        ("", 0),
        ("peek", 0),
        ("push", 3),
        ("push", -1),
        ("push", HUGE),
        ("push", -HUGE),
        ("pop", 3),
        ("pop", -1),
        ("pop", HUGE),
        ("pop", -HUGE),
    ]

    def refused(self, steps, number, pile=(), over=0):
        with self.subTest(steps=steps, pile=pile, over=over):
            with self.assertRaises(BadMove) as caught:
                called([5, 6, 7], list(pile), steps, HOUSE, 9, [1, 2, 3], over)
            self.assertEqual(caught.exception.number, number)

    def test_steps_that_can_never_be_at_any_place(self):
        for wrong in self.NEVER:
            for good in (self.GOOD, [*self.GOOD[:3], ("call",), *self.GOOD[2:0:-1]]):
                for ahead in range(len(good) + 1):
                    self.refused(good[:ahead] + [wrong] + good[ahead:], ahead, [1, 2])

    def test_a_pop_from_an_empty_pile(self):
        self.refused([("pop", 0)], 0)
        self.refused([("pop", 0), ("push", 0)], 0)
        self.refused([("push", 0), ("pop", 0), ("pop", 0), ("push", 1)], 2)
        self.refused([("pop", 0), ("pop", 0)], 1, [1])
        self.refused([*self.GOOD, ("pop", 1)], 4)

    def test_a_pop_of_what_the_called_one_took_off(self):
        self.refused([("push", 0), ("call",), ("pop", 0)], 2, (), 1)
        self.refused([("push", 0), ("call",), ("pop", 0), ("pop", 0)], 3, [1], 1)

    def test_a_second_call(self):
        self.refused([("call",), ("call",)], 1)
        self.refused([("call",), *self.GOOD, ("call",)], 5)
        self.refused([*self.GOOD, ("call",), ("call",), ("call",)], 5)

    def test_more_taken_off_than_there_is(self):
        for over in (1, 2, HUGE):
            self.refused([("call",)], 0, (), over)
            self.refused([*self.GOOD, ("call",)], 4, (), over)
        self.refused([("call",), ("push", 0)], 0, [1], 2)
        self.refused([("push", 0), ("call",)], 1, [1], 3)
        self.refused([("pop", 0), ("call",)], 1, [1], 1)

    def test_fewer_taken_off_than_none(self):
        for over in (-1, -2, -HUGE):
            self.refused([("call",)], 0, [1, 2], over)
            self.refused([*self.GOOD, ("call",), *self.GOOD], 4, [1, 2], over)

    def test_the_first_one_counts(self):
        reasons = [("pop", 0), ("copy", 0, 0), (), ("call", 1), ("push", 3)]
        for first, second in itertools.permutations(reasons, 2):
            self.refused([("copy", 0, 1), first, ("swap", 1, 2), second], 1)
        self.refused([("call",), ("pop", 0), ("call",)], 1)
        self.refused([("call",), ("call",), ("pop", 0)], 1)
        self.refused([("call",), ("swap", 0, 0), ("call",)], 0, (), 1)

    def test_boxes_by_the_count_of_worths(self):
        house = ((0,), 0, ())
        steps = [("push", 9), ("pop", 9), ("copy", 9, 0), ("push", 10)]
        with self.assertRaises(BadMove) as caught:
            called([0] * 10, [], steps, house, 0, [0] * 10, 0)
        self.assertEqual(caught.exception.number, 3)
        for wrong in (("push", 1), ("pop", 1), ("copy", 0, 1), ("swap", 1, 0)):
            with self.assertRaises(BadMove) as caught:
                called([0], [1], [("push", 0), wrong], house, 0, [0], 0)
            self.assertEqual(caught.exception.number, 1)


class TestCallsThatAreMade(unittest.TestCase):
    """What point 13 promises, by handing's steps done by called."""

    def made(self, chance, boxes, house, args, goal, alive):
        sizes = chance.choice((3, 50, HUGE))
        row = [chance.randint(-sizes, sizes) for _ in range(2 * boxes + 1)]
        worths, lost, given = row[:boxes], row[boxes:-1], row[-1]
        pile = [chance.randint(-sizes, sizes) for _ in range(chance.randint(0, 3))]
        steps = handing(boxes, house, args, goal, alive)
        ins = house[0]
        over = max(0, len(args) - len(ins))
        held, laid, seen = called(worths, pile, steps, house, given, lost, over)
        told = (boxes, house, args, goal, alive, steps, worths, pile, given, lost)
        self.assertEqual(held[goal], given, told)
        self.assertEqual(laid, pile, told)
        for box in alive:
            self.assertEqual(held[box], worths[box], told)
        wanted = [worths[box] for box in args]
        handed = min(len(ins), len(args))
        self.assertEqual(seen[:handed], wanted[:handed], told)
        self.assertEqual(seen[len(ins):], wanted[len(ins):], told)
        self.assertEqual(len(seen), len(ins) + over, told)
        # An in that no arg is for is no goal of the lead, so it still holds what it had.
        self.assertEqual(seen[handed:len(ins)], [worths[box] for box in ins[handed:]], told)

    def test_every_small_call(self):
        chance = random.Random(13)
        for call in small_calls():
            self.made(chance, *call)

    def test_calls_of_one_to_ten_boxes(self):
        chance = random.Random(14)
        for _ in range(4000):
            self.made(chance, *random_call(chance))


class TestHandedIn(unittest.TestCase):
    def test_nothing_handed_in_is_changed(self):
        args, alive = [1, 0, 3, 3], [0, 1, 2]
        worths, pile, lost = [5, 6, 7, 8], [1], [70, 71, 72, 73]
        house = ((0, 1), 3, (1,))
        steps = handing(4, house, args, 3, alive)
        handed = (args, alive, worths, pile, lost, steps)
        kept = copy.deepcopy(handed)
        called(worths, pile, steps, house, 9, lost, 2)
        handing(4, house, args, 3, alive)
        self.assertEqual(handed, kept)

    def test_nothing_is_changed_by_a_refusal(self):
        args, alive = [1, 0, 3], [0, 3]
        worths, pile, lost = [5, 6, 7, 8], [1], [70, 71, 72, 73]
        steps = [("push", 0), ("swap", 1, 2), ("call",), ("pop", 0), ("call",)]
        handed = (args, alive, worths, pile, lost, steps)
        kept = copy.deepcopy(handed)
        self.assertRaises(BadCall, handing, 4, HOUSE, args, 3, alive)
        self.assertRaises(BadMove, called, worths, pile, steps, HOUSE, 9, lost, 1)
        self.assertEqual(handed, kept)

    def test_told_lists_may_be_changed(self):
        args, alive = [], []
        first = handing(3, HOUSE, args, 0, alive)
        first.append("more")
        self.assertEqual((args, alive), ([], []))
        self.assertEqual(handing(3, HOUSE, args, 0, alive), [("call",)])

    def test_the_lists_that_called_tells_may_be_changed(self):
        for steps in ([], [("push", 0)], [("call",)]):
            for house in (((0,), 0, ()), ((0,), 0, (1, 2))):
                worths, pile, lost = [5, 6, 7], [1], [70, 71, 72]
                wanted = called(worths, pile, steps, house, 9, lost, 0)
                told = copy.deepcopy(wanted)
                for part in wanted:
                    part.append("more")
                    part[0] = "other"
                self.assertEqual((worths, pile, lost), ([5, 6, 7], [1], [70, 71, 72]))
                self.assertEqual(called(worths, pile, steps, house, 9, lost, 0), told)

    def test_one_list_may_be_handed_in_twice(self):
        row = [5, 6, 7]
        told = called(row, row, [("pop", 0), ("call",)], ((0,), 1, (2,)), 9, row, 1)
        self.assertEqual(told, ([5, 9, 7], [5], [7, 6]))
        self.assertEqual(row, [5, 6, 7])
        boxes = [1, 2]
        self.assertEqual(
            handing(3, ((0,), 0, ()), boxes, 0, boxes),
            [("push", 1), ("push", 2), ("push", 2), ("copy", 0, 1), ("call",), ("pop", 2), ("pop", 1)],
        )
        self.assertEqual(boxes, [1, 2])

    def test_what_was_handed_in_may_be_changed_later(self):
        worths, pile, lost = [5, 6, 7], [1], [70, 71, 72]
        args, alive = [1], [1]
        steps = handing(3, HOUSE, args, 0, alive)
        told = called(worths, pile, steps, HOUSE, 9, lost, 0)
        wanted = copy.deepcopy((steps, told))
        for row in (worths, pile, lost, args, alive):
            row.append(0)
            row[0] = 2
        self.assertEqual((steps, told), wanted)


class TestInterface(unittest.TestCase):
    def test_each_is_defined_in_houses(self):
        for ask in (houses.handing, houses.called):
            self.assertEqual(ask.__module__, "movesatonce.houses")

    def test_arguments_by_name(self):
        house = ((0,), 0, ())
        self.assertEqual(handing(boxes=1, house=house, args=[], goal=0, alive=[]), [("call",)])
        told = called(worths=[1], pile=[2], steps=[("call",)], house=house, given=3, lost=[4], over=1)
        self.assertEqual(told, ([3], [], [1, 2]))


if __name__ == "__main__":
    unittest.main()
