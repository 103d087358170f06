"""Point [3]: each call within the limits, and somewhat beyond them, returns within a few seconds."""

import random
import time
import unittest

from tests import model, samples
from tests.samples import ANSWER, CRASH_R, CRASH_S, PASS_B, PASS_F, SEND
from wipedtalk.programs import Pair, Receiver, Sender, keeps_nothing
from wipedtalk.runs import delivered, possible, walked
from wipedtalk.verdicts import rest, verdict

SECONDS = 3
CALLS = (walked, delivered, possible, rest, verdict)


def great_pair(senders, receivers, seed):
    """A pair with so many states, 60 kinds of messages each way and 9 values."""
    chance = random.Random(seed)

    def row(count, limit):
        return tuple(chance.randrange(limit) for _ in range(count))

    told = Sender(
        9, 60, 60,
        sends=row(senders, 60), ticks=row(senders, senders), hears=[row(60, senders) for _ in range(senders)],
        takes=[row(9, senders) for _ in range(senders)], crashes=row(senders, senders),
    )
    heard = Receiver(
        9, 60, 60,
        sends=row(receivers, 60), ticks=row(receivers, receivers), hears=[row(60, receivers) for _ in range(receivers)],
        gives=[row(60, 9) for _ in range(receivers)], crashes=row(receivers, receivers),
    )
    return Pair(told, heard)


def circle_pair(senders, receivers):
    """A pair that says nothing, and whose rounds end only when all pairs of states have come."""
    return Pair(
        Sender(
            1, 1, 1,
            sends=[None] * senders, ticks=[(state + 1) % senders for state in range(senders)],
            hears=[(0,)] * senders, takes=[(0,)] + [None] * (senders - 1), crashes=[0] * senders,
        ),
        Receiver(
            1, 1, 1,
            sends=[None] * receivers, ticks=[(state + 1) % receivers for state in range(receivers)],
            hears=[(0,)] * receivers, gives=[(None,)] * receivers, crashes=[0] * receivers,
        ),
    )


class Limits(unittest.TestCase):
    def timed(self, call, *arguments, **named):
        begin = time.perf_counter()
        told = call(*arguments, **named)
        self.assertLess(time.perf_counter() - begin, SECONDS, call)
        return told

    def test_many_states_messages_and_values(self):
        for senders, receivers in ((60, 6), (6, 60), (20, 20), (60, 1), (1, 60)):
            pair = self.timed(great_pair, senders, receivers, 3)
            self.assertTrue(self.timed(lambda: pair == great_pair(senders, receivers, 3)))
            self.timed(keeps_nothing, pair, "sender")
            for call in CALLS:
                self.timed(call, pair, [])

    def test_many_events(self):
        for senders, receivers in ((60, 6), (6, 60), (20, 20)):
            pair = great_pair(senders, receivers, 4)
            chance = random.Random(5)
            runs = [
                [SEND] * 1500 + [ANSWER] * 1500,
                [SEND] * 1500 + [PASS_F] * 1500,
                [SEND] * 3000,
                [("hand", place % 9) for place in range(3000)],
                [CRASH_S, CRASH_R] * 1500,
                [SEND] * 1500 + [("lose", "forward", place) for place in range(1499, -1, -1)],
                model.random_run(chance, pair, 400) + [SEND, PASS_F, ANSWER, PASS_B] * 650,
            ]
            for run in runs:
                for call in CALLS:
                    self.timed(call, pair, run)

    def test_many_rounds(self):
        for senders, receivers in ((19, 20), (7, 57), (57, 7), (3, 50), (1, 60)):
            pair = circle_pair(senders, receivers)
            self.assertEqual(self.timed(rest, pair, []), ([], False, True))
            self.assertEqual(self.timed(verdict, pair, [SEND, ANSWER] * 1500), "good")

    def test_many_handings_and_deliveries(self):
        hands = [("hand", place % 9) for place in range(1000)]
        run = [event for hand in hands for event in (hand, SEND, PASS_F)]
        pair = samples.telling_pair(9)
        self.assertEqual(self.timed(verdict, pair, run), "good")
        self.assertEqual(self.timed(delivered, pair, run), [hand[1] for hand in hands])
        run = [event for place in range(1500) for event in (("hand", place % 9), SEND)]
        self.assertEqual(self.timed(rest, pair, run)[0], [place % 9 for place in range(1500)])
        self.assertEqual(self.timed(verdict, pair, run), "good")

    def test_many_like_handings_of_which_half_is_excused(self):
        pair = samples.telling_pair(1)
        hand = ("hand", 0)
        for kept, lost in ((500, 500), (999, 1), (1, 999), (0, 1000)):
            run = [hand] * lost + [CRASH_S] + [hand, SEND] * kept
            self.assertEqual(self.timed(verdict, pair, run), "good")
            self.assertEqual(self.timed(verdict, pair, run, excusing=("receiver",)), "lost")
            # What comes in the rest may be given to the handings behind the crash just as well.
            run = [hand, SEND] * kept + [CRASH_R] + [hand] * lost
            self.assertEqual(self.timed(verdict, pair, run), "good" if kept >= lost else "lost")

    def test_runs_that_are_longer_than_the_limit(self):
        pair = samples.echo()
        run = [("hand", 1), SEND, PASS_F, ANSWER, PASS_B] * 6000
        self.assertEqual(self.timed(walked, pair, run), (0, 0, (), ()))
        self.assertEqual(self.timed(verdict, pair, run), "good")
        run = [("hand", 1)] + [SEND] * 14000 + [PASS_F] * 14000
        self.assertEqual(len(self.timed(delivered, pair, run)), 14000)
        self.assertEqual(self.timed(verdict, pair, run), "wrong")


if __name__ == "__main__":
    unittest.main()
