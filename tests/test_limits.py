"""Point [3]: each call within the limits, and somewhat beyond them, returns within a few seconds."""

import random
import time
import unittest

from tests import model, samples
from tests.samples import ANSWER, CRASH_R, CRASH_S, HAND, PASS_B, PASS_F, SEND, asking_pair, slow_pair
from wipedtalk.families import enduring, greeting, turn
from wipedtalk.live import Live
from wipedtalk.programs import Pair, Receiver, Sender, keeps_nothing
from wipedtalk.replays import breaking, one_crash, recorded
from wipedtalk.runs import delivered, possible, walked
from wipedtalk.searching import least_broken
from wipedtalk.verdicts import rest, verdict

SECONDS = 3
CALLS = (walked, delivered, possible, rest, verdict)


def great_pair(senders, receivers, seed):
    """A pair with so many states, 60 kinds of messages each way and 9 values."""
    chance = random.Random(seed)

    def row(count, limit):
        return tuple(chance.randrange(limit) for _ in range(count))

    told = Sender(
        9, 60, 60,
        sends=row(senders, 60), ticks=row(senders, senders), hears=[row(60, senders) for _ in range(senders)],
        takes=[row(9, senders) for _ in range(senders)], crashes=row(senders, senders),
    )
    heard = Receiver(
        9, 60, 60,
        sends=row(receivers, 60), ticks=row(receivers, receivers), hears=[row(60, receivers) for _ in range(receivers)],
        gives=[row(60, 9) for _ in range(receivers)], crashes=row(receivers, receivers),
    )
    return Pair(told, heard)


def circle_pair(senders, receivers):
    """A pair that says nothing, and whose rounds end only when all pairs of states have come."""
    return Pair(
        Sender(
            1, 1, 1,
            sends=[None] * senders, ticks=[(state + 1) % senders for state in range(senders)],
            hears=[(0,)] * senders, takes=[(0,)] + [None] * (senders - 1), crashes=[0] * senders,
        ),
        Receiver(
            1, 1, 1,
            sends=[None] * receivers, ticks=[(state + 1) % receivers for state in range(receivers)],
            hears=[(0,)] * receivers, gives=[(None,)] * receivers, crashes=[0] * receivers,
        ),
    )


def late_pair(senders, receivers):
    """A pair that keeps nothing, with 60 kinds of messages each way, which tells a value when each pair of states came.

    Just the sender's last state is heard, and just by the receiver's last one; the numbers have no common divisor.
    """
    return Pair(
        Sender(
            1, 60, 60,
            sends=[None] + [state for state in range(1, senders)],
            ticks=[0] + [state % (senders - 1) + 1 for state in range(1, senders)],
            hears=[(0,) * 60] * senders, takes=[(1,)] + [None] * (senders - 1), crashes=[0] * senders,
        ),
        Receiver(
            1, 60, 60,
            sends=[None] * (receivers - 1) + [59],
            ticks=[(state + 1) % (receivers - 1) for state in range(receivers - 1)] + [receivers - 1],
            hears=[
                tuple(
                    receivers - 1 if state == receivers - 2 and message == senders - 1 else state
                    for message in range(60)
                ) for state in range(receivers)
            ],
            gives=[
                tuple(0 if state == receivers - 2 and message == senders - 1 else None for message in range(60))
                for state in range(receivers)
            ],
            crashes=[0] * receivers,
        ),
    )


class Timed(unittest.TestCase):
    def timed(self, call, *arguments, **named):
        begin = time.perf_counter()
        told = call(*arguments, **named)
        self.assertLess(time.perf_counter() - begin, SECONDS, call)
        return told


class Limits(Timed):
    def test_many_states_messages_and_values(self):
        for senders, receivers in ((60, 6), (6, 60), (20, 20), (60, 1), (1, 60)):
            pair = self.timed(great_pair, senders, receivers, 3)
            self.assertTrue(self.timed(lambda: pair == great_pair(senders, receivers, 3)))
            self.timed(keeps_nothing, pair, "sender")
            for call in CALLS:
                self.timed(call, pair, [])

    def test_many_events(self):
        for senders, receivers in ((60, 6), (6, 60), (20, 20)):
            pair = great_pair(senders, receivers, 4)
            chance = random.Random(5)
            runs = [
                [SEND] * 1500 + [ANSWER] * 1500,
                [SEND] * 1500 + [PASS_F] * 1500,
                [SEND] * 3000,
                [("hand", place % 9) for place in range(3000)],
                [CRASH_S, CRASH_R] * 1500,
                [SEND] * 1500 + [("lose", "forward", place) for place in range(1499, -1, -1)],
                model.random_run(chance, pair, 400) + [SEND, PASS_F, ANSWER, PASS_B] * 650,
            ]
            for run in runs:
                for call in CALLS:
                    self.timed(call, pair, run)

    def test_many_rounds(self):
        for senders, receivers in ((19, 20), (7, 57), (57, 7), (3, 50), (1, 60)):
            pair = circle_pair(senders, receivers)
            self.assertEqual(self.timed(rest, pair, []), ([], False, True))
            self.assertEqual(self.timed(verdict, pair, [SEND, ANSWER] * 1500), "good")

    def test_many_handings_and_deliveries(self):
        hands = [("hand", place % 9) for place in range(1000)]
        run = [event for hand in hands for event in (hand, SEND, PASS_F)]
        pair = samples.telling_pair(9)
        self.assertEqual(self.timed(verdict, pair, run), "good")
        self.assertEqual(self.timed(delivered, pair, run), [hand[1] for hand in hands])
        run = [event for place in range(1500) for event in (("hand", place % 9), SEND)]
        self.assertEqual(self.timed(rest, pair, run)[0], [place % 9 for place in range(1500)])
        self.assertEqual(self.timed(verdict, pair, run), "good")

    def test_many_like_handings_of_which_half_is_excused(self):
        pair = samples.telling_pair(1)
        hand = ("hand", 0)
        for kept, lost in ((500, 500), (999, 1), (1, 999), (0, 1000)):
            run = [hand] * lost + [CRASH_S] + [hand, SEND] * kept
            self.assertEqual(self.timed(verdict, pair, run), "good")
            self.assertEqual(self.timed(verdict, pair, run, excusing=("receiver",)), "lost")
            # What comes in the rest may be given to the handings behind the crash just as well.
            run = [hand, SEND] * kept + [CRASH_R] + [hand] * lost
            self.assertEqual(self.timed(verdict, pair, run), "good" if kept >= lost else "lost")

    def test_runs_that_are_longer_than_the_limit(self):
        pair = samples.echo()
        run = [("hand", 1), SEND, PASS_F, ANSWER, PASS_B] * 6000
        self.assertEqual(self.timed(walked, pair, run), (0, 0, (), ()))
        self.assertEqual(self.timed(verdict, pair, run), "good")
        run = [("hand", 1)] + [SEND] * 14000 + [PASS_F] * 14000
        self.assertEqual(len(self.timed(delivered, pair, run)), 14000)
        self.assertEqual(self.timed(verdict, pair, run), "wrong")


class BrokenTalks(Timed):
    def assert_told_runs_may_be_passed(self, pair, run):
        """All functions answer for a run that the package told, for a part of it, and with more behind it."""
        for events in (run, run[:len(run) // 2], run + [SEND, ANSWER], run[:-1] + [CRASH_S, CRASH_R] * 20):
            for call in CALLS:
                self.timed(call, pair, events)

    def test_pairs_with_60_states_in_all(self):
        for pair in (
            asking_pair(28), slow_pair(58), late_pair(8, 7), late_pair(6, 10), late_pair(12, 5), late_pair(30, 2),
            circle_pair(7, 8), circle_pair(60, 1), samples.echo(1),
        ):
            kind, events = self.timed(breaking, pair, [])
            self.assertEqual(kind, "run")
            self.assertNotEqual(verdict(pair, events), "good")
            self.assert_told_runs_may_be_passed(pair, events)
            self.assertNotEqual(verdict(pair, self.timed(one_crash, pair), excusing=("sender",)), "good")
            for channel in ("forward", "backward"):
                run = self.timed(recorded, pair, channel, 36)
                self.assertEqual(walked(pair, run)[:2], (0, 0))
                self.assert_told_runs_may_be_passed(pair, run)

    def test_a_long_run_is_told(self):
        states = 60
        pair = slow_pair(states - 2)
        # In no round ahead of the delivery anything is sent.
        _, events = self.timed(breaking, pair, [])
        self.assertGreater(len(events), 3000)
        self.assertLessEqual(len(events), 2 * states ** 2 + 6 * states + 8)
        self.assertEqual(self.timed(verdict, pair, events), "lost")

    def test_many_states_messages_and_values(self):
        for senders, receivers in ((60, 1), (1, 60), (10, 6), (6, 10)):
            for seed in range(5):
                pair = great_pair(senders, receivers, seed)
                self.assertEqual(self.timed(breaking, pair, []), ("run", [HAND]))

    def test_long_settled_runs(self):
        talk = [HAND, SEND, PASS_F, ANSWER, PASS_B]
        settled = talk * 600
        for pair in (samples.echo(1), samples.echo(9)):
            kind, events = self.timed(breaking, pair, settled)
            self.assertEqual((kind, events[:3000]), ("run", settled))
            self.assertNotEqual(self.timed(verdict, pair, events), "good")
        pair = asking_pair(3)
        settled = ([HAND] + talk[1:] * 4) * 176
        self.assertEqual(len(settled), 2992)
        kind, events = self.timed(breaking, pair, settled)
        self.assertEqual(kind, "run")
        self.assert_told_runs_may_be_passed(pair, events)

    def test_pairs_that_hold_out(self):
        pairs = [enduring(room) for room in range(1, 9)]
        pairs += [make(values) for make in (turn, greeting) for values in (1, 2, 3)]
        for pair in pairs:
            kind, told = self.timed(breaking, pair, [])
            if kind == "run":
                self.assert_told_runs_may_be_passed(pair, told)
                for channel in ("forward", "backward"):
                    self.assert_told_runs_may_be_passed(pair, self.timed(recorded, pair, channel, 36))
            if keeps_nothing(pair, "receiver"):
                self.timed(one_crash, pair)
            for call in CALLS:
                self.timed(call, pair, [SEND, ANSWER] * 1500)
        for make, most in ((enduring, 8), (turn, 3), (greeting, 3)):
            for number in range(1, most + 1):
                self.timed(make, number)

    def test_least_broken(self):
        pairs = [slow_pair(3), slow_pair(4), asking_pair(4), enduring(1), samples.echo(2), samples.telling_pair(2)]
        chance = random.Random(61)
        for _ in range(60):
            pairs.append(model.changed_pair(chance, chance.choice(pairs[:6]), 2))
        for pair in pairs:
            for excusing in samples.CHOICES:
                self.timed(least_broken, pair, 4, excusing=excusing)

    def test_all_that_a_search_can_have_to_look_at(self):
        # The sender is always free and both programs send at each tick, so that most is possible.
        many = 6
        told = Sender(
            2, 4, 4,
            sends=[0, 1, 2, 3, 2, 3], ticks=[1, 2, 3, 4, 0, 5], hears=[(state,) * 4 for state in range(many)],
            takes=[(0, 5)] * many, crashes=[0] * many,
        )
        heard = Receiver(
            2, 4, 4,
            sends=[0, 1, 2, 3, 2, 3], ticks=[1, 2, 3, 4, 5, 0], hears=[(state,) * 4 for state in range(many)],
            gives=[(None,) * 4] * many, crashes=[0] * many,
        )
        pair = Pair(told, heard)
        begin = time.perf_counter()
        runs = [[]]
        for _ in range(4):
            runs = [run + [event] for run in runs for event in possible(pair, run)]
        for run in runs:
            verdict(pair, run)
        self.assertLess(time.perf_counter() - begin, SECONDS)


class LiveTalks(Timed):
    def test_many_events_done_and_taken_back(self):
        hands = [("hand", place % 9) for place in range(3000)]
        for pair, run in (
            (great_pair(20, 20, 4), [SEND] * 3000),
            (great_pair(60, 6, 4), [SEND, ANSWER] * 750 + [PASS_F, PASS_B] * 750),
            (great_pair(6, 60, 4), hands),
            (samples.telling_pair(9), [event for hand in hands[:1000] for event in (hand, SEND, PASS_F)]),
            (circle_pair(19, 20), [HAND] * 3000),
            (samples.echo(9), [HAND, SEND, PASS_F, ANSWER, PASS_B] * 600),
            (enduring(8), [HAND, CRASH_S, SEND, CRASH_R] * 750),
        ):
            live = self.timed(Live, pair)
            for place, event in enumerate(run):
                self.timed(live.do, event)
                if place % 100 == 0:
                    self.timed(live.verdict)
            self.assertEqual(self.timed(lambda: live.run), run)
            self.assertEqual(self.timed(lambda: live.state), walked(pair, run))
            self.assertEqual(self.timed(lambda: live.delivered), delivered(pair, run))
            self.assertEqual(self.timed(live.verdict), verdict(pair, run))
            for place in range(len(run) - 1, -1, -1):
                self.assertEqual(self.timed(live.back), run[place])
                if place % 100 == 0:
                    self.timed(live.verdict)
            self.assertEqual(len(live), 0)

    def test_runs_that_were_told(self):
        for pair in (slow_pair(58), enduring(8), asking_pair(28)):
            _, run = breaking(pair, [])
            live = Live(pair)
            begin = time.perf_counter()
            for event in run:
                live.do(event)
            self.assertEqual(live.verdict(), verdict(pair, run))
            while len(live) > 0:
                live.back()
            self.assertLess(time.perf_counter() - begin, SECONDS)


if __name__ == "__main__":
    unittest.main()
