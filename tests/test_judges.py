"""[30] and [31]: the log of a team, and who agrees with a log."""

import unittest

from carfax.cuttings import letters_from, letters_to
from carfax.judges import agrees
from carfax.teams import Team, play
from tests import reference_team
from tests.drawn import draw_cars, draw_cutting, draw_net, draw_schedule, draw_state
from tests.samples import TOWN, TOWN_CARS, TOWN_STATE, state_with
from tests.teamwork import BLOCKED_STATE, MERGE, MERGE_CARS, MERGE_STATE, RING, RING_CARS, plain

CUTTING = (0, 1, 2)


def log_of(net, cars, cutting, ahead, state, until, schedule=()):
    team = Team(net, cars, cutting, ahead, state, until)
    play(team, list(schedule))
    return team.log()


def merge_log(ahead=0, state=MERGE_STATE):
    """All letters of the times 4, 5 and 6."""
    return log_of(MERGE, MERGE_CARS, CUTTING, ahead, state, 7)


def who_agrees(log, state=MERGE_STATE, until=7, cutting=CUTTING):
    return [agrees(MERGE, MERGE_CARS, cutting, state, until, log, worker) for worker in range(max(cutting) + 1)]


def put_in(log, time, kind, road, what):
    """The log with another `what` for all letters of the time, kind and road."""
    found = [letter[:5] + (what,) if letter[2:5] == (time, kind, road) else letter for letter in log]
    assert found != log
    return found


class LogTest(unittest.TestCase):
    def test_letters_in_the_order_in_which_they_were_sent(self):
        for ahead in (0, 1, 5):
            team = Team(RING, RING_CARS, CUTTING, ahead, state_with(RING, 0, {}), 12)
            before = []
            for number in draw_schedule(ahead, 3000):
                if not team.moves():
                    break
                chosen = team.moves()[number % len(team.moves())]
                team.move(number % len(team.moves()))
                log = team.log()
                self.assertEqual(log[:len(before)], before)
                self.assertTrue(all(letter[0] == chosen[1] for letter in log[len(before):]))
                if chosen[0] == "mail":
                    self.assertEqual(log, before)
                before = log
            self.assertEqual(team.moves(), [])

    def test_their_form(self):
        log = log_of(TOWN, TOWN_CARS, (0, 1, 2, 0, 1, 2), 3, TOWN_STATE, 20, draw_schedule(1, 500))
        for letter in log:
            self.assertIs(type(letter), tuple)
            sender, receiver, time, kind, road, what = letter
            self.assertNotEqual(sender, receiver)
            self.assertIn(time, range(6, 20))
            self.assertIn((kind, road), letters_from(TOWN, (0, 1, 2, 0, 1, 2), sender))
            self.assertIn((kind, road), letters_to(TOWN, (0, 1, 2, 0, 1, 2), receiver))
            self.assertIs(type(what), tuple)
            self.assertEqual(what, tuple(sorted(what)) if kind != "heads" else what)
            sizes = {"ask": 7, "come": 5}
            for told in what:
                if kind in sizes:
                    self.assertEqual((type(told), len(told)), (tuple, sizes[kind]))
                else:
                    self.assertIs(type(told), int)

    def test_in_the_end_all_teams_say_the_same(self):
        for seed in range(20):
            net = draw_net(seed, most_roads=6, cells=5)
            cars = draw_cars(seed, net)
            cutting = draw_cutting(seed, net)
            state = draw_state(seed, net, cars)
            ends = []
            for ahead in (0, 1, 6):
                log = log_of(net, cars, cutting, ahead, state, state[0] + 6, draw_schedule((seed, ahead), 300))
                ends.append({letter[:5]: letter[5] for letter in log})
            self.assertEqual(ends, ends[:1] * 3)


class AgreesTest(unittest.TestCase):
    def test_the_log_of_a_team_at_its_end(self):
        for ahead in (0, 1, 2, 9):
            for state in (MERGE_STATE, BLOCKED_STATE):
                log = merge_log(ahead, state)
                self.assertEqual(who_agrees(log, state), [True, True, True])

    def test_it_returns_true_or_false(self):
        self.assertIs(agrees(MERGE, MERGE_CARS, CUTTING, MERGE_STATE, 7, merge_log(), 0), True)
        self.assertIs(agrees(MERGE, MERGE_CARS, CUTTING, MERGE_STATE, 7, [], 0), False)

    def test_drawn_teams(self):
        letters = 0
        for seed in range(60):
            net = draw_net(seed, most_roads=8, cells=6)
            cars = draw_cars(seed, net)
            cutting = draw_cutting(seed, net)
            state = draw_state(seed, net, cars)
            log = log_of(net, cars, cutting, seed % 5, state, state[0] + 6, draw_schedule(seed, 400))
            for worker in range(max(cutting) + 1):
                self.assertTrue(agrees(net, cars, cutting, state, state[0] + 6, log, worker))
            letters += len(log)
        self.assertGreater(letters, 1000)

    def test_where_no_letters_are_due(self):
        self.assertEqual(who_agrees([], cutting=(0, 0, 0)), [True])
        self.assertEqual(who_agrees(merge_log(), cutting=(0, 0, 0)), [True])

    def test_the_order_of_the_log_is_free(self):
        # As long as there is one letter for each time, kind and road.
        log = merge_log()
        self.assertEqual(len(log), 12)
        for other in (log[::-1], sorted(log), log[5:] + log[:5]):
            self.assertEqual(who_agrees(other), [True, True, True])

    def test_the_log_of_another_state(self):
        # It is only on the road of worker 2 that they differ.
        self.assertEqual(who_agrees(merge_log(state=BLOCKED_STATE), MERGE_STATE), [True, True, False])
        self.assertEqual(who_agrees(merge_log(), BLOCKED_STATE), [True, True, False])


class ChangedTest(unittest.TestCase):
    """A letter that says something else."""

    def test_who_does_not_agree(self):
        log = merge_log()
        # Nobody is let through, though worker 0 would let car 1; worker 1 would then ask for it at time 5.
        self.assertEqual(who_agrees(put_in(log, 4, "let", 1, ())), [False, False, True])
        # Who gets it does not see that it is wrong, where no difference is told of later.
        self.assertEqual(who_agrees(put_in(log, 6, "come", 2, ((0, 3, 1, 2, 0),))), [False, True, True])
        self.assertEqual(who_agrees(put_in(log, 6, "let", 1, (0,))), [False, True, True])
        # In cell 0 is another car, so that car 3 is not let through in either case.
        self.assertEqual(who_agrees(put_in(log, 6, "heads", 2, (2,))), [True, True, False])
        # If the cell were free, car 3 would be let through.
        self.assertEqual(who_agrees(put_in(log, 6, "heads", 2, (-1,))), [False, True, False])
        # Car 0 would be let through.
        self.assertEqual(who_agrees(put_in(log, 4, "ask", 1, ())), [False, False, True])
        # What it asks is told on.
        self.assertEqual(who_agrees(put_in(log, 4, "ask", 1, ((0, 3, 1, 2, 0, 2, 0),))), [False, False, True])
        self.assertEqual(who_agrees(put_in(log, 4, "ask", 1, ((0, 1, 1, 2, 0, 1, 0),))), [False, False, True])
        # At time 5 car 1 is beyond cell 0, as if nobody had come; at time 6 it would not be seen either.
        self.assertEqual(who_agrees(put_in(log, 4, "come", 2, ())), [False, True, True])
        self.assertEqual(who_agrees(put_in(log, 5, "come", 2, ())), [False, True, False])

    def test_letters_that_fit_each_other(self):
        # Car 3 instead of car 1: all but worker 1 agree when all others say what follows from it.
        log = put_in(merge_log(), 4, "ask", 1, ((0, 3, 1, 2, 0, 1, 0),))
        log = put_in(log, 4, "come", 2, ((0, 3, 1, 1, 0),))
        self.assertEqual(who_agrees(log), [True, False, False])
        for told in (
            (5, "heads", 2, (3,)), (5, "come", 2, ()), (6, "heads", 2, (-1,)), (6, "let", 1, (0,)),
            (6, "come", 2, ((0, 3, 1, 2, 0),)),
        ):
            self.assertNotEqual(who_agrees(log), [True, False, True])
            log = put_in(log, *told)
        self.assertEqual(who_agrees(log), [True, False, True])

    def test_each_letter(self):
        strange = {"ask": (), "heads": (0,), "let": (0,), "come": ()}
        for log, state in ((merge_log(), MERGE_STATE), (merge_log(state=BLOCKED_STATE), BLOCKED_STATE)):
            for letter in log:
                kind, what = letter[3], letter[5]
                other = strange[kind] if what != strange[kind] else {"heads": (1,), "let": ()}.get(kind, 0)
                if other == 0:
                    other = {"ask": ((0, 1, 1, 2, 0, 2, 0),), "come": ((0, 1, 1, 2, 0),)}[kind]
                found = who_agrees(put_in(log, *letter[2:5], other), state)
                # Who sends it does not agree.
                self.assertFalse(found[letter[0]])
                self.assertEqual(who_agrees(log, state), [True, True, True])

    def test_lists_for_tuples(self):
        log = merge_log()
        self.assertEqual(who_agrees(put_in(log, 4, "let", 1, [0]))[0], False)
        self.assertEqual(who_agrees(put_in(log, 4, "heads", 2, [-1]))[2], False)

    def test_letters_that_make_no_sense(self):
        # Roads, lanes and cars that are not there: nobody can go on by such a letter, or send it.
        log = merge_log()
        for kind, road, receiver, whats in (
            ("ask", 1, 0, (
                ((0, 1, 1, 3, 0, 2, 0),), ((0, 1, 1, 1, 0, 2, 0),), ((0, 1, 1, 2, 1, 2, 0),), ((0, 1, 1, 2, -1, 2, 0),),
                ((0, 1, 1, -1, 0, 2, 0),), ((0, 1, 1, 2, 0, 2),), ((0, 1, 1, 2, 0, 2, 0, 0),),
                (0,), None, 5, "ask",
            )),
            ("heads", 2, 0, ((), None, -1)),
            ("come", 2, 2, (
                ((1, 1, 1, 2, 0),), ((-1, 1, 1, 2, 0),), ((0, 5, 1, 2, 0),), ((0, -1, 1, 2, 0),), ((0, 1, 2, 2, 0),),
                ((0, 1, 0, 2, 0),), ((0, 1, 1, 2),), ((0, 1, 1, 2, 0, 0),), (0,), None, 0,
            )),
            ("let", 1, 1, (None, 0)),
        ):
            for what in whats:
                found = who_agrees(put_in(log, 4, kind, road, what))
                sender = [letter[0] for letter in log if letter[3:5] == (kind, road)][0]
                self.assertEqual((found[receiver], found[sender]), (False, False), what)
                self.assertEqual([worker for worker in range(3) if found[worker]], [
                    worker for worker in range(3) if worker not in (sender, receiver)
                ])

    def test_cars_that_ask_in_another_order(self):
        # Who gets it lets both through, in the order in which they are told of, and says so in an ascending tuple.
        net = (((1, 4, 2, 0), (2, 4, 2, 0), (2, 4, 2, -1)), ((("order", (1, 0)), (2,)),))
        cars = ((0, (1, 2)), (0, (1, 2)))
        state = state_with(net, 2, {(1, 0): ((3, 0, 0, 0),), (1, 1): ((3, 1, 0, 0),)})
        log = log_of(net, cars, (0, 1, 0), 0, state, 3)
        self.assertEqual([letter[2:] for letter in log], [
            (2, "ask", 1, ((0, 0, 1, 2, 0, 1, 0), (1, 1, 1, 2, 1, 1, 0))), (2, "let", 1, (0, 1)),
        ])
        log = [log[0][:5] + (log[0][5][::-1],), log[1]]
        self.assertEqual([agrees(net, cars, (0, 1, 0), state, 3, log, worker) for worker in (0, 1)], [True, False])

    def test_a_lane_that_is_not_there_is_passed_over(self):
        self.assertEqual(who_agrees(put_in(merge_log(), 4, "let", 1, (0, 7))), [False, True, True])


class LeftOutTest(unittest.TestCase):
    def test_each_letter(self):
        # Who sends it and who gets it do not agree, even if it would play no part.
        for log, state in ((merge_log(), MERGE_STATE), (merge_log(state=BLOCKED_STATE), BLOCKED_STATE)):
            for letter in log:
                other = [told for told in log if told != letter]
                self.assertEqual(len(other), 11)
                found = who_agrees(other, state)
                self.assertEqual(found, [worker not in letter[:2] for worker in range(3)])

    def test_all_letters(self):
        self.assertEqual(who_agrees([]), [False, False, False])

    def test_one_of_two_for_the_same(self):
        log = merge_log()
        for letter in log:
            self.assertEqual(who_agrees([letter] + log), [True, True, True])
            self.assertEqual(who_agrees(log + [letter]), [True, True, True])


class AddedTest(unittest.TestCase):
    def test_for_another_time(self):
        log = merge_log()
        for time in (0, 3, 7, 8, 100, -1):
            for letter in log[:4]:
                added = letter[:2] + (time,) + letter[3:5] + (((9, 9),),)
                self.assertEqual(who_agrees(log + [added]), [True, True, True])
                self.assertEqual(who_agrees([added] + log), [True, True, True])

    def test_to_nobody(self):
        # No letters are due for road 0, whose crossing is its worker's own and which begins nowhere, nor for others.
        log = merge_log()
        for kind, road in (
            ("ask", 0), ("let", 0), ("come", 0), ("heads", 0), ("ask", 2), ("let", 2), ("heads", 1), ("come", 1),
            ("ask", 9), ("word", 0),
        ):
            for receiver in (0, 1, 2, 3, -1):
                for time in (4, 5, 6):
                    added = (1, receiver, time, kind, road, ((0, 0, 1, 2, 0),))
                    self.assertEqual(who_agrees(log + [added]), [True, True, True])
        # They do not take the place of a letter that is left out.
        short = [letter for letter in log if letter[2:5] != (5, "let", 1)]
        self.assertEqual(who_agrees(short + [(0, 1, 5, "let", 0, ()), (0, 1, 5, "let", 2, ())]), [False, False, True])

    def test_sent_twice_with_other_words(self):
        # What counts is the last one.
        log = merge_log()
        for letter in log:
            other = letter[:5] + ((7, 7),)
            self.assertEqual(who_agrees([other] + log), [True, True, True])
            at = log.index(letter)
            self.assertEqual(who_agrees(log[:at] + [other] + log[at:]), [True, True, True])
        wrong = (0, 1, 4, "let", 1, ())
        self.assertEqual(who_agrees(log + [wrong]), [False, False, True])
        self.assertEqual(who_agrees(log + [wrong, (0, 1, 4, "let", 1, (0,))]), [True, True, True])


class SenderAndReceiverTest(unittest.TestCase):
    def test_they_play_no_part(self):
        for pair in ((0, 0), (2, 1), (3, 3), (-1, 9), (None, None), ("a", ())):
            log = [pair + letter[2:] for letter in merge_log()]
            self.assertEqual(who_agrees(log), [True, True, True])

    def test_nor_in_which_letter_is_the_last_one(self):
        log = merge_log()
        wrong = (2, 0, 4, "let", 1, ())
        self.assertEqual(who_agrees(log + [wrong]), [False, False, True])
        self.assertEqual(who_agrees([wrong] + log), [True, True, True])

    def test_the_cutting_tells_what_is_due(self):
        # With other numbers for the workers, the same letters are due.
        log = merge_log()
        for cutting in ((1, 2, 0), (2, 1, 0), (0, 2, 1)):
            self.assertEqual(who_agrees(log, cutting=cutting), [True, True, True])
        # With fewer workers, some of them play no part; with others, some are missing.
        self.assertEqual(who_agrees(log, cutting=(0, 0, 1)), [True, True])
        self.assertEqual(who_agrees(log, cutting=(1, 0, 1)), [True, True])
        self.assertEqual(who_agrees(log_of(MERGE, MERGE_CARS, (0, 0, 1), 0, MERGE_STATE, 7)), [False, False, True])


class TimesTest(unittest.TestCase):
    def test_from_a_later_state_on(self):
        log = merge_log(2)
        for begin in (5, 6):
            state = plain(MERGE, MERGE_CARS, MERGE_STATE, begin)
            self.assertEqual(who_agrees(log, state), [True, True, True])
            self.assertEqual(who_agrees([letter for letter in log if letter[2] >= begin], state), [True, True, True])
            # What is said of the times before plays no part.
            self.assertEqual(who_agrees(put_in(log, 4, "let", 1, ()), state), [True, True, True])
        self.assertEqual(who_agrees(log, (5,) + MERGE_STATE[1:]), [False, False, True])

    def test_up_to_an_earlier_time(self):
        log = merge_log(2)
        for until in (5, 6):
            self.assertEqual(who_agrees(log, until=until), [True, True, True])
            short = [letter for letter in log if letter[2] < until]
            self.assertEqual(who_agrees(short, until=until), [True, True, True])
            self.assertEqual(who_agrees(short, until=until + 1), [False, False, False])
            wrong = put_in(put_in(log, until, "heads", 2, (4,)), until, "ask", 1, ((0, 4, 1, 2, 0, 1, 0),))
            self.assertEqual(who_agrees(wrong, until=until), [True, True, True])

    def test_the_last_time_does_not_count(self):
        log = merge_log()
        self.assertEqual(who_agrees(log, until=7), [True, True, True])
        self.assertEqual(who_agrees(log, until=8), [False, False, False])
        self.assertEqual(who_agrees([letter for letter in log if letter[2] != 6], until=7), [False, False, False])

    def test_where_there_is_no_step(self):
        self.assertEqual(who_agrees([], until=4), [True, True, True])
        self.assertEqual(who_agrees([(0, 1, 4, "let", 1, (5,))], until=4), [True, True, True])


class OtherWordsTest(unittest.TestCase):
    """Many letters changed, left out and added, against the document once more in tests/reference_team.py."""

    def test_drawn(self):
        found = []
        for seed in range(40):
            net = draw_net(seed, most_roads=6, cells=5)
            cars = draw_cars(seed, net)
            cutting = draw_cutting(seed, net)
            state = draw_state(seed, net, cars)
            until = state[0] + 4
            log = log_of(net, cars, cutting, seed % 3, state, until, draw_schedule(seed, 200))
            for number, other in enumerate(draw_schedule((seed, "judge"), 12)):
                if log:
                    changed = spoiled_log(log, number, abs(other))
                    for worker in range(max(cutting) + 1):
                        told = agrees(net, cars, cutting, state, until, changed, worker)
                        self.assertEqual(
                            told, reference_team.agrees(net, cars, cutting, state, until, changed, worker),
                        )
                        found.append(told)
        self.assertGreater(found.count(True), 100)
        self.assertGreater(found.count(False), 100)


def spoiled_log(log, number, other):
    """The log with a letter changed, left out, or of another time; it says what letters of its kind and road say."""
    at = other % len(log)
    letter = log[at]
    alike = sorted({told[5] for told in log if told[3:5] == letter[3:5]})
    if number % 4 == 0:
        return log[:at] + log[at + 1:]
    if number % 4 == 1:
        return log[:at] + [letter[:2] + (letter[2] + 1,) + letter[3:]] + log[at + 1:]
    if number % 4 == 2 and letter[3] == "heads":
        return log + [letter[:5] + ((-1,) * len(letter[5]),)]
    return log + [letter[:5] + (alike[other // len(log) % len(alike)],)]


if __name__ == "__main__":
    unittest.main()
