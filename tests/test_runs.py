"""Promise [12]: runs of a net, tick by tick; by hand."""

import unittest

from roundnews.errors import NewsError, NoHouse, NoStreet
from roundnews.runs import Run
from tests.chances import run_of, shown

# Life 10, gap 3, room 4; by a beat of 60 lists of all houses set out at tick 0 alone.
MAKE = (15, 10, 3, 4, 60)
PAIR = (2, [(0, 1, 3)])
LINE = (3, [(0, 1, 3), (1, 2, 2)])
ALONE = (3, [])
EMPTY = ("list", ())


def later(net, fates, steps, make=MAKE):
    """A Run in which these steps begin at tick 5: the lists of tick 0 are heard, and found nothing to answer.

    Of PAIR the next letter is 2 then, of LINE 4.
    """
    return run_of(make, net, fates, [[]] * 5 + steps)


def news_letter(teller, number, age, words):
    return ("news", (teller, number, age, words))


def told_by(run, many, first=()):
    """What is told of so many ticks, the events first in the first of them; pairs (tick, what)."""
    found = []
    for at in range(many):
        tick = run.now()
        found += [(tick, what) for what in run.step(list(first) if at == 0 else [])]
    return found


def ways_of(run, least=0):
    """Number, from and to of the letters under way, from the number least on, by rising numbers."""
    return sorted(post[1:4] for post in run.under_way() if post[1] >= least)


class Begin(unittest.TestCase):
    def test_nothing_has_happened(self):
        run = Run(MAKE, LINE, [])
        self.assertEqual(shown(run), (0, [], [[], [], []], [None] * 3, [True, True], 0, []))

    def test_a_house_alone(self):
        run = Run(MAKE, (1, []), [])
        self.assertEqual(told_by(run, 12, [("tell", 0, "a")]), [(0, ("told", 0, 0, "a")), (9, ("ended", 0, 0))])
        self.assertEqual(shown(run), (12, [(0, ("told", 0, 0, "a")), (9, ("ended", 0, 0))], [[]], [0], [], 0, []))

    def test_now_counts_ticks(self):
        run = Run(MAKE, PAIR, [])
        for tick in range(20):
            self.assertEqual(run.now(), tick)
            self.assertEqual(run.step([]), [])
        self.assertEqual(run.now(), 20)


class LettersUnderWay(unittest.TestCase):
    def test_lists_at_tick_0_by_rising_houses(self):
        run = run_of(MAKE, LINE, [], [[]])
        self.assertEqual(run.sent(), 4)
        self.assertEqual(run.under_way(), [
            (2, 2, 1, 2, EMPTY), (2, 3, 2, 1, EMPTY), (3, 0, 0, 1, EMPTY), (3, 1, 1, 0, EMPTY)])
        self.assertEqual(shown(later(LINE, [], []))[5:], (4, []))

    def test_a_news_is_there_after_the_wait_and_as_much_older(self):
        run = later(PAIR, [], [[("tell", 0, "ab")]])
        self.assertEqual(run.held(0), [(0, 0, 1, "ab")])
        self.assertEqual(run.under_way(), [(8, 2, 0, 1, news_letter(0, 0, 0, "ab"))])
        self.assertEqual(told_by(run, 2), [])
        self.assertEqual(run.under_way(), [(8, 2, 0, 1, news_letter(0, 0, 0, "ab"))])
        self.assertEqual(run.held(1), [])
        self.assertEqual(run.step([]), [("took", 1, 0, (0, 0, 3, "ab"))])
        self.assertEqual(run.under_way(), [])
        self.assertEqual(run.held(1), [(0, 0, 4, "ab")])
        self.assertEqual(run.held(0), [(0, 0, 4, "ab")])
        self.assertEqual(run.sent(), 3)

    def test_it_goes_on_from_house_to_house(self):
        run = later(LINE, [], [[("tell", 0, "ab")], [], [], []])
        self.assertEqual(run.under_way(), [(10, 5, 1, 2, news_letter(0, 0, 3, "ab"))])
        self.assertEqual(told_by(run, 3), [(10, ("took", 2, 1, (0, 0, 5, "ab")))])
        self.assertEqual([run.held(house) for house in range(3)], [[(0, 0, 7, "ab")]] * 3)
        self.assertEqual(run.sent(), 6)

    def test_it_ends_everywhere_at_once(self):
        run = later(LINE, [], [[("tell", 0, "ab")]])
        self.assertEqual(told_by(run, 12)[2:], [(14, ("ended", 0, 0)), (14, ("ended", 1, 0)), (14, ("ended", 2, 0))])
        self.assertEqual([run.number(house) for house in range(3)], [0, None, None])

    def test_what_has_ended_on_the_way_isn_t_taken_in(self):
        run = later(PAIR, [], [[("tell", 0, "a")]], (15, 3, 3, 4, 60))
        self.assertEqual(told_by(run, 5), [(7, ("ended", 0, 0))])
        self.assertEqual(run.held(1), [])

    def test_letters_are_heard_in_the_order_of_their_numbers(self):
        # Letters 4 and 5 are told by 0 and 2, and both are at 1 at tick 8.
        run = later(LINE, [(5, ("late", 1))], [[("tell", 0, "a"), ("tell", 2, "b")], [], []])
        self.assertEqual([post[:2] for post in run.under_way()], [(8, 4), (8, 5)])
        self.assertEqual(run.step([]), [("took", 1, 0, (0, 0, 3, "a")), ("took", 1, 2, (2, 0, 3, "b"))])
        # And here 4, which is late, and 5 at tick 11.
        run = later(LINE, [(4, ("late", 3))], [[("tell", 0, "a")], [], [], [], [("tell", 2, "b")], []])
        self.assertEqual([post[:2] for post in run.under_way()], [(11, 4), (11, 5)])
        self.assertEqual(run.step([]), [("took", 1, 0, (0, 0, 6, "a")), ("took", 1, 2, (2, 0, 2, "b"))])

    def test_of_ten_and_two_the_lesser_number_is_first(self):
        # Letters rise as numbers do, not as texts.
        net = (12, [(house, 11, 1) for house in range(11)])
        run = run_of((15, 10, 3, 12, 60), net, [], [[], []] + [[("tell", house, "a") for house in range(11)]])
        self.assertEqual([what[2] for what in run.step([])], list(range(11)))

    def test_what_is_mailed_at_hearing_is_numbered_ahead_of_what_is_told(self):
        run = later(LINE, [], [[("tell", 0, "a")], [], [], [("tell", 2, "b")]])
        self.assertEqual(run.under_way(), [
            (10, 5, 1, 2, news_letter(0, 0, 3, "a")), (10, 6, 2, 1, news_letter(2, 0, 0, "b"))])

    def test_answers_set_out_by_the_tick_of_hearing(self):
        fates = [(4, ("lose",)), (5, ("lose",))]
        run = later(LINE, fates, [[("tell", 0, "a"), ("tell", 2, "b")]] + [[]] * 6, (15, 20, 3, 4, 10))
        # At tick 10 lists set out as letters 6 to 9: 0 to 1, 1 to 0, 1 to 2, 2 to 1.
        self.assertEqual(ways_of(run), [(6, 0, 1), (7, 1, 0), (8, 1, 2), (9, 2, 1)])
        run.step([])
        # At tick 12 house 2 hears what 1 has, nothing, and house 1 what 2 has.
        self.assertEqual(run.under_way()[2:], [
            (14, 10, 2, 1, news_letter(2, 0, 7, "b")), (14, 11, 1, 2, ("want", (2,)))])


class ListsUnderWay(unittest.TestCase):
    def test_marks_in_a_list_are_older_too(self):
        # Both hold the same by tick 8; at tick 10 they list it to one another, and find nothing to answer.
        run = later(PAIR, [], [[("tell", 0, "ab")]] + [[]] * 7, (15, 20, 3, 4, 10))
        same = ("list", ((0, 0, 201, 5),))
        self.assertEqual(run.under_way(), [(13, 3, 0, 1, same), (13, 4, 1, 0, same)])
        self.assertEqual(run.step([]), [])
        self.assertEqual((run.sent(), run.under_way()), (5, []))

    def test_a_mark_that_ends_on_the_way_is_none(self):
        # What 0 told at tick 5, lost on its way to 1, has age 5 in the list that sets out at tick 10, and 8 at 13.
        for life, answers in ((9, 1), (8, 0)):
            run = later(PAIR, [(2, ("lose",))], [[("tell", 0, "a")]] + [[]] * 8, (15, life, 1, 4, 10))
            self.assertEqual([post[2:] for post in run.under_way()], [
                (1, 0, ("want", (0,))), (0, 1, news_letter(0, 0, 8, "a"))] * answers)

    def test_wants_are_answered(self):
        # Letter 2 is lost, 3 and 4 are the lists of tick 10, 5 is house 1's want, 6 is 0's answer to the empty list.
        run = later(PAIR, [(2, ("lose",)), (6, ("lose",))], [[("tell", 0, "ab")]] + [[]] * 14, (15, 20, 3, 4, 10))
        self.assertEqual(run.log(), [(5, ("told", 0, 0, "ab")), (19, ("took", 1, 0, (0, 0, 14, "ab")))])

    def test_beat(self):
        run = Run((15, 10, 3, 4, 4), LINE, [])
        counts = []
        for _ in range(14):
            run.step([])
            counts.append(run.sent())
        self.assertEqual(counts, [4] * 4 + [8] * 4 + [12] * 4 + [16] * 2)
        run = Run((15, 10, 3, 4, 1), PAIR, [])
        self.assertEqual([(run.step([]), run.sent()) for _ in range(5)], [([], many) for many in (2, 4, 6, 8, 10)])


class Fates(unittest.TestCase):
    def test_lost(self):
        run = later(PAIR, [(2, ("lose",))], [[("tell", 0, "a")]])
        self.assertEqual((run.under_way(), run.sent()), ([], 3))
        self.assertEqual(told_by(run, 12), [(14, ("ended", 0, 0))])

    def test_late(self):
        run = later(PAIR, [(2, ("late", 4))], [[("tell", 0, "a")]])
        self.assertEqual(run.under_way(), [(12, 2, 0, 1, news_letter(0, 0, 0, "a"))])
        self.assertEqual(told_by(run, 7), [(12, ("took", 1, 0, (0, 0, 7, "a")))])
        self.assertEqual((run.under_way(), run.sent()), ([], 3))

    def test_late_till_it_has_ended(self):
        for late, told in ((6, [("took", 1, 0, (0, 0, 9, "a"))]), (7, [])):
            run = later(PAIR, [(2, ("late", late))], [[("tell", 0, "a")]] + [[]] * (2 + late))
            self.assertEqual([what for what in run.step([]) if what[0] == "took"], told)

    def test_twice(self):
        run = later(PAIR, [(2, ("twice", 2))], [[("tell", 0, "a")]])
        letter = news_letter(0, 0, 0, "a")
        self.assertEqual(run.under_way(), [(8, 2, 0, 1, letter), (10, 2, 0, 1, letter)])
        self.assertEqual(run.sent(), 3)
        self.assertEqual(told_by(run, 3), [(8, ("took", 1, 0, (0, 0, 3, "a")))])
        self.assertEqual(run.under_way(), [(10, 2, 0, 1, letter)])
        # The same once more, of the same age as the one that's held: nothing happens, nothing is answered.
        self.assertEqual(told_by(run, 3), [])
        self.assertEqual((run.under_way(), run.sent()), ([], 3))

    def test_twice_where_the_second_is_old_by_then(self):
        run = later(PAIR, [(2, ("twice", 4))], [[("tell", 0, "a")], [], [], [("tell", 0, "b")], [], [], []])
        self.assertEqual(run.held(1), [(0, 1, 4, "b")])
        self.assertEqual(run.step([]), [])
        # House 1 answers with the newer one, which is 0's own.
        self.assertEqual(run.under_way(), [(15, 4, 1, 0, news_letter(0, 1, 4, "b"))])

    def test_twice_takes_in_again_behind_a_fall(self):
        run = later(PAIR, [(2, ("twice", 2))], [[("tell", 0, "a")], [], [], [], [("fall", 1)]])
        self.assertEqual(run.held(1), [])
        self.assertEqual(told_by(run, 1), [(10, ("took", 1, 0, (0, 0, 5, "a")))])

    def test_letters_that_never_set_out(self):
        fates = [(3, ("lose",)), (40, ("late", 3)), (10 ** 9, ("twice", 40))]
        run, other = Run(MAKE, PAIR, fates), Run(MAKE, PAIR, [])
        for _ in range(12):
            self.assertEqual(run.step([]), other.step([]))
            self.assertEqual(shown(run), shown(other))

    def test_each_letter_has_its_own_fate(self):
        fates = [(0, ("twice", 1)), (3, ("late", 40)), (1, ("lose",)), (2, ("late", 1))]
        run = run_of(MAKE, LINE, fates, [[]])
        self.assertEqual(run.under_way(), [
            (3, 0, 0, 1, EMPTY), (3, 2, 1, 2, EMPTY), (4, 0, 0, 1, EMPTY), (42, 3, 2, 1, EMPTY)])
        self.assertEqual(run.sent(), 4)


class Wishes(unittest.TestCase):
    def test_tell_and_take(self):
        run = Run(MAKE, ALONE, [])
        told = told_by(run, 4, [("tell", 1, "a"), ("take", 0), ("tell", 2, "")])
        self.assertEqual(told, [(0, ("told", 0, 0, None)), (0, ("told", 1, 0, "a")), (0, ("told", 2, 0, ""))])
        self.assertEqual([run.held(house)[0] for house in range(3)], [(0, 0, 4, None), (1, 0, 4, "a"), (2, 0, 4, "")])

    def test_a_later_wish_is_in_the_place_of_another_one(self):
        for events, words in (
                ([("tell", 0, "a"), ("tell", 0, "b")], "b"), ([("tell", 0, "a"), ("take", 0)], None),
                ([("take", 0), ("tell", 0, "a")], "a")):
            self.assertEqual(Run(MAKE, ALONE, []).step(events), [("told", 0, 0, words)])

    def test_they_wait_for_the_gap(self):
        run = Run(MAKE, ALONE, [])
        told = told_by(run, 1, [("tell", 0, "a")]) + told_by(run, 9, [("tell", 0, "b")])
        self.assertEqual(told, [(0, ("told", 0, 0, "a")), (3, ("told", 0, 1, "b"))])
        self.assertEqual(run.number(0), 1)

    def test_numbers_come_round(self):
        run = Run((3, 1, 1, 1, 60), ALONE, [])
        numbers = [run.step([("tell", 0, "a")])[0][2] for _ in range(7)]
        self.assertEqual(numbers, [0, 1, 2, 0, 1, 2, 0])


class Falls(unittest.TestCase):
    def test_it_begins_anew(self):
        run = later(LINE, [], [[("tell", 1, "a")]] + [[]] * 3)
        self.assertEqual(run.sent(), 6)
        self.assertEqual(run.step([("fall", 1)]), [("fell", 1)])
        self.assertEqual((run.held(1), run.number(1)), ([], None))
        # Its empty list goes to its neighbours at once.
        self.assertEqual(run.under_way(), [(11, 7, 1, 2, EMPTY), (12, 6, 1, 0, EMPTY)])
        # They answer with its own old news, which it heeds: three steps on, for at most four are about.
        self.assertEqual(told_by(run, 9), [
            (13, ("heeded", 1, 3)), (14, ("ended", 0, 1)), (14, ("ended", 2, 1))])
        self.assertEqual((run.held(1), run.number(1)), ([], 3))

    def test_it_hushes_for_life(self):
        run = run_of(MAKE, ALONE, [], [[("tell", 0, "a")], [("fall", 0), ("tell", 0, "b")]])
        self.assertEqual(run.log()[1:], [(1, ("fell", 0))])
        self.assertEqual(told_by(run, 12), [(11, ("told", 0, 0, "b"))])

    def test_it_speaks_earlier_where_it_heeded(self):
        run = later(LINE, [], [[("tell", 1, "a")], [], [], [("fall", 1), ("tell", 1, "b")]])
        self.assertEqual([row for row in told_by(run, 8) if row[1][1] == 1], [
            (12, ("heeded", 1, 3)), (12, ("told", 1, 4, "b"))])

    def test_its_wish_is_forgotten(self):
        run = run_of(MAKE, ALONE, [], [[("tell", 0, "b"), ("fall", 0)]])
        self.assertEqual(run.log(), [(0, ("fell", 0))])
        self.assertEqual(told_by(run, 15), [])

    def test_neighbours_are_those_whose_streets_are_up(self):
        run = later(LINE, [], [[("down", 0), ("fall", 1)]])
        self.assertEqual(ways_of(run), [(4, 1, 2)])
        run.step([("up", 0)])
        self.assertEqual(ways_of(run), [(4, 1, 2), (5, 0, 1), (6, 1, 0)])

    def test_letters_on_their_way_to_it_and_from_it_go_on(self):
        run = later(LINE, [], [[("tell", 0, "a")], [("fall", 1), ("fall", 0)]])
        self.assertEqual(told_by(run, 2), [(8, ("took", 1, 0, (0, 0, 3, "a")))])

    def test_twice_in_one_tick(self):
        run = Run(MAKE, PAIR, [])
        self.assertEqual(run.step([("fall", 0), ("fall", 1), ("fall", 0)]), [("fell", 0), ("fell", 1), ("fell", 0)])
        # Three lists by the falls, then two by the beat.
        self.assertEqual(ways_of(run), [(0, 0, 1), (1, 1, 0), (2, 0, 1), (3, 0, 1), (4, 1, 0)])


class Streets(unittest.TestCase):
    def test_what_is_on_it_is_lost(self):
        # Letter 4 is told by 0 to 1; 5 and 6 by 1, to 0 and 2.
        fates = [(4, ("twice", 5)), (5, ("late", 2)), (6, ("twice", 1))]
        run = later(LINE, fates, [[("tell", 0, "a"), ("tell", 1, "b")], []])
        self.assertEqual([post[:2] for post in run.under_way()], [(7, 6), (8, 4), (8, 6), (10, 5), (13, 4)])
        # What is there at this tick is heard ahead of it.
        self.assertEqual(run.step([("down", 0)]), [("took", 2, 1, (1, 0, 2, "b"))])
        self.assertEqual(run.up(), [False, True])
        self.assertEqual([post[:2] for post in run.under_way()], [(8, 6)])
        self.assertEqual([row for row in told_by(run, 15) if row[1][0] == "took"], [])

    def test_the_second_of_twice_is_lost_behind_the_first(self):
        run = later(PAIR, [(2, ("twice", 5))], [[("tell", 0, "a")], [], [], []])
        self.assertEqual([post[:2] for post in run.under_way()], [(13, 2)])
        run.step([("down", 0)])
        self.assertEqual(run.under_way(), [])
        self.assertEqual(run.held(1), [(0, 0, 5, "a")])

    def test_it_stays_lost_as_the_street_comes_up(self):
        run = later(PAIR, [], [[("tell", 0, "a")], [("down", 0), ("up", 0)]])
        # Only the two lists by which it came up are on it; they make both alike again.
        self.assertEqual(run.under_way(), [(9, 3, 0, 1, ("list", ((0, 0, 67, 1),))), (9, 4, 1, 0, EMPTY)])
        self.assertEqual(told_by(run, 7), [(12, ("took", 1, 0, (0, 0, 7, "a")))])

    def test_no_letter_takes_a_street_that_is_down(self):
        run = run_of(MAKE, LINE, [], [[("down", 0)]])
        self.assertEqual(ways_of(run), [(0, 1, 2), (1, 2, 1)])
        self.assertEqual(run.sent(), 2)
        run.step([("tell", 1, "a"), ("tell", 0, "b")])
        self.assertEqual(ways_of(run), [(0, 1, 2), (1, 2, 1), (2, 1, 2)])
        self.assertEqual(told_by(run, 2), [(3, ("took", 2, 1, (1, 0, 2, "a")))])

    def test_lists_to_one_another_as_it_comes_up(self):
        run = later(LINE, [], [[("down", 1)], [("tell", 2, "c")], [("tell", 1, "a")], [], [], [("up", 1)]])
        # The lesser house's first, by this street alone; 4 was 1's telling to 0.
        self.assertEqual(run.under_way(), [
            (12, 5, 1, 2, ("list", ((1, 0, 67, 3),))), (12, 6, 2, 1, ("list", ((2, 0, 69, 4),)))])
        self.assertEqual(run.sent(), 7)
        # So 2 hears what 1 has, and answers, ahead of 1.
        self.assertEqual(told_by(run, 4), [
            (14, ("took", 1, 2, (2, 0, 8, "c"))), (14, ("took", 2, 1, (1, 0, 7, "a")))])

    def test_a_list_of_coming_up_has_what_the_neighbour_told_meanwhile(self):
        # The greater house's list, too, is what it has at this tick, with the lesser one's wish not yet told.
        run = later(PAIR, [], [[("down", 0), ("tell", 1, "b")], [("tell", 0, "a"), ("up", 0)]])
        self.assertEqual(run.under_way(), [
            (9, 2, 0, 1, EMPTY), (9, 3, 1, 0, ("list", ((1, 0, 68, 1),))), (9, 4, 0, 1, news_letter(0, 0, 0, "a"))])

    def test_nothing_where_it_is_so_already(self):
        run, other = (run_of(MAKE, LINE, [], [[("tell", 0, "a")]]) for _ in range(2))
        run.step([("up", 0), ("up", 1)])
        other.step([])
        self.assertEqual(shown(run), shown(other))
        run.step([("down", 1), ("down", 1)])
        other.step([("down", 1)])
        self.assertEqual(shown(run), shown(other))
        run.step([("down", 1), ("up", 1), ("up", 1)])
        other.step([("up", 1)])
        self.assertEqual(shown(run), shown(other))

    def test_up(self):
        run = run_of(MAKE, (4, [(0, 1, 1), (2, 3, 1), (1, 2, 1)]), [], [[("down", 2), ("down", 0)], [("up", 0)]])
        self.assertEqual(run.up(), [True, True, False])

    def test_events_are_done_in_order(self):
        run = Run(MAKE, PAIR, [])
        run.step([("down", 0), ("fall", 1), ("up", 0), ("fall", 0)])
        # Of the falls only the second mails, behind the two lists of coming up; then those of the beat.
        self.assertEqual(ways_of(run), [(0, 0, 1), (1, 1, 0), (2, 0, 1), (3, 0, 1), (4, 1, 0)])


class OrderInATick(unittest.TestCase):
    def test_heard_then_done_then_told_then_ended(self):
        # With life 4: what 0 told at tick 5 is heard at 8, and ends at the end of that tick.
        run = later(LINE, [], [[("tell", 0, "a"), ("tell", 2, "c")], [], []], (15, 4, 1, 4, 60))
        self.assertEqual(run.step([("tell", 2, "d"), ("fall", 2), ("tell", 1, "b"), ("tell", 0, "e")]), [
            ("took", 1, 0, (0, 0, 3, "a")), ("fell", 2), ("told", 0, 1, "e"), ("told", 1, 0, "b"),
            ("ended", 1, 0), ("ended", 1, 2)])

    def test_dropped_behind_took(self):
        run = later(LINE, [], [[("tell", 2, "c")], [("tell", 0, "a")], [], []], (15, 10, 3, 1, 60))
        self.assertEqual(run.step([]), [("took", 1, 0, (0, 0, 3, "a")), ("dropped", 1, 2)])
        self.assertEqual(run.held(1), [(0, 0, 4, "a")])

    def test_lists_set_out_ahead_of_what_is_told(self):
        run = run_of(MAKE, PAIR, [], [[("tell", 0, "a")]])
        # So the list of tick 0 doesn't have it yet.
        self.assertEqual(run.under_way(), [
            (3, 0, 0, 1, EMPTY), (3, 1, 1, 0, EMPTY), (3, 2, 0, 1, news_letter(0, 0, 0, "a"))])

    def test_lists_of_the_beat_have_what_was_heard_and_lost_at_this_tick(self):
        # At tick 10 house 1 hears 0's news, and house 0 falls ahead of the lists.
        run = later((2, [(0, 1, 5)]), [], [[("tell", 0, "a")]] + [[]] * 4 + [[("fall", 0)]], (15, 10, 3, 4, 10))
        self.assertEqual(run.under_way(), [
            (15, 3, 0, 1, EMPTY), (15, 4, 0, 1, EMPTY), (15, 5, 1, 0, ("list", ((0, 0, 67, 5),)))])

    def test_ended_by_rising_houses_then_tellers(self):
        run = later((2, [(0, 1, 1)]), [], [[("tell", 1, "b"), ("tell", 0, "a")], []], (15, 3, 1, 4, 60))
        self.assertEqual(run.step([]), [("ended", 0, 0), ("ended", 0, 1), ("ended", 1, 0), ("ended", 1, 1)])


class Log(unittest.TestCase):
    def test_one_pair_for_each_thing_that_happened(self):
        run = Run(MAKE, LINE, [])
        found = []
        for events in [[("tell", 0, "a"), ("tell", 2, None)], [("fall", 1)], [], [("take", 0)]] + [[]] * 12:
            tick = run.now()
            found += [(tick, what) for what in run.step(events)]
            self.assertEqual(run.log(), found)
        self.assertEqual({what[0] for _, what in found}, {"told", "took", "fell", "ended"})


class Refusals(unittest.TestCase):
    def refused(self, error, events):
        run, twin = (run_of(MAKE, LINE, [(4, ("twice", 3))], [[("tell", 0, "a")], []]) for _ in range(2))
        before = shown(run)
        with self.assertRaises(NewsError) as caught:
            run.step(events)
        self.assertIs(type(caught.exception), error, events)
        self.assertIsInstance(caught.exception, ValueError)
        self.assertEqual(shown(run), before)
        for _ in range(12):
            self.assertEqual(run.step([]), twin.step([]))
            self.assertEqual(shown(run), shown(twin))

    def test_no_house(self):
        for house in (3, 4, 11, 10 ** 12, -1, -3, -10 ** 12):
            for event in (("tell", house, "a"), ("take", house), ("fall", house)):
                self.refused(NoHouse, [event])

    def test_no_street(self):
        for street in (2, 3, 30, 10 ** 12, -1, -2, -10 ** 12):
            for word in ("down", "up"):
                self.refused(NoStreet, [(word, street)])
        with self.assertRaises(NoStreet):
            Run(MAKE, ALONE, []).step([("up", 0)])

    def test_ahead_of_all(self):
        right = [("tell", 0, "b"), ("fall", 1), ("down", 0), ("up", 0), ("down", 1), ("take", 2)]
        self.refused(NoHouse, right + [("fall", 3)])
        self.refused(NoStreet, right + [("down", 2)])
        self.refused(NoStreet, [("up", -1)] + right)

    def test_the_first_event_at_fault(self):
        self.refused(NoHouse, [("tell", 0, "a"), ("tell", 3, "a"), ("down", 2)])
        self.refused(NoStreet, [("tell", 0, "a"), ("down", 2), ("tell", 3, "a")])
        self.refused(NoStreet, [("down", -1), ("fall", 3), ("up", 5)])

    def test_where_there_are_more_streets_than_houses(self):
        net = (4, [(0, 1, 1), (0, 2, 1), (1, 2, 1), (0, 3, 1), (1, 3, 1), (2, 3, 1)])
        run = Run(MAKE, net, [])
        self.assertEqual(run.step([("down", 5)]), [])
        self.assertEqual(run.up(), [True] * 5 + [False])
        for event in (("fall", 5), ("fall", 4), ("tell", 4, "a"), ("take", 5)):
            with self.assertRaises(NoHouse):
                run.step([event])
        with self.assertRaises(NoStreet):
            run.step([("up", 6)])


if __name__ == "__main__":
    unittest.main()
