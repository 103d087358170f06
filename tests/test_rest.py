"""Point [6] and `rest` of the interface under wipedtalk/verdicts.py."""

import random
import unittest

from tests import model, samples
from tests.samples import ANSWER, CRASH_R, CRASH_S, HAND, PASS_B, PASS_F, SEND
from wipedtalk.programs import Pair, Receiver, Sender
from wipedtalk.verdicts import rest


def caller(count, sends=0):
    """A sender that sends at each tick, in states 0 to count - 1, round and round; free only in 0."""
    return Sender(
        1, 1, 1,
        sends=[sends] * count,
        ticks=[(state + 1) % count for state in range(count)],
        hears=[(state,) for state in range(count)],
        takes=[(0,)] + [None] * (count - 1),
        crashes=[0] * count,
    )


def counter(gives, back):
    """A receiver that counts what it hears up to the length of gives, and then goes back to a state."""
    count = len(gives)
    return Receiver(
        1, 1, 1,
        sends=[None] * count,
        ticks=list(range(count)),
        hears=[(state + 1,) for state in range(count - 1)] + [(back,)],
        gives=[(gift,) for gift in gives],
        crashes=[0] * count,
    )


class Values(unittest.TestCase):
    def test_nothing_happens(self):
        pair = Pair(samples.open_sender(), samples.mute_receiver())
        self.assertEqual(rest(pair, []), ([], False, True))

    def test_kinds(self):
        told = rest(samples.echo(), [HAND])
        self.assertIsInstance(told, tuple)
        self.assertEqual([type(part) for part in told], [list, bool, bool])

    def test_a_value_that_was_handed(self):
        for value in (0, 1):
            self.assertEqual(rest(samples.echo(), [("hand", value)]), ([value], False, True))
        self.assertEqual(rest(samples.echo(), [("hand", 1), SEND, PASS_F]), ([1], False, True))
        self.assertEqual(rest(samples.echo(), [("hand", 1), SEND, PASS_F, ANSWER]), ([], False, True))

    def test_messages_forward_pass_in_order_and_ahead_of_those_backward(self):
        pair = samples.echo(3)
        run = []
        for value in (2, 0, 1):
            run += [("hand", value), SEND, CRASH_S]
        self.assertEqual(rest(pair, run), ([2, 0, 1], False, True))
        # What is in the channel backward would free the sender only behind these.
        run = [HAND, SEND, SEND, SEND, PASS_F, ANSWER]
        self.assertEqual(rest(pair, run), ([0, 0], False, True))

    def test_the_channel_backward_passes_behind_the_channel_forward(self):
        # The receiver answers its state; only what it sent ahead is heard ahead of the rounds.
        told = Sender(
            1, 1, 2,
            sends=[None, 0, None], ticks=[0, 1, 2], hears=[(1, 2)] * 3, takes=[(0,), None, None], crashes=[0, 0, 0],
        )
        heard = Receiver(
            1, 1, 2,
            sends=[0, 1], ticks=[0, 1], hears=[(1,), (1,)], gives=[(0,), (None,)], crashes=[0, 0],
        )
        # Of one answer the sender begins to send, and then it hears that it was heard.
        self.assertEqual(rest(Pair(told, heard), []), ([0], False, True))
        self.assertEqual(rest(Pair(told, heard), [ANSWER]), ([0], False, True))
        self.assertEqual(rest(Pair(told, heard), [ANSWER, PASS_B, SEND, PASS_F]), ([], False, False))

    def test_deliveries_up_to_the_end_of_the_rounds(self):
        # Three rounds until the receiver is where it stays, and the sender counts to 2.
        pair = Pair(caller(2), counter([None, 0, 0, None], 3))
        self.assertEqual(rest(pair, []), ([0, 0], False, True))
        # The rounds of the talk end when both states come again: twelve of them.
        pair = Pair(caller(3), counter([0, None, None, 0], 0))
        self.assertEqual(rest(pair, []), ([0] * 6, True, True))

    def test_a_run_ahead_counts(self):
        pair = Pair(caller(1), counter([0, 0, None], 2))
        self.assertEqual(rest(pair, []), ([0, 0], False, True))
        self.assertEqual(rest(pair, [SEND, PASS_F]), ([0], False, True))
        self.assertEqual(rest(pair, [SEND]), ([0, 0], False, True))
        self.assertEqual(rest(pair, [SEND, SEND, SEND]), ([0, 0], False, True))
        self.assertEqual(rest(pair, [SEND, PASS_F, CRASH_R]), ([0, 0], False, True))


class Endless(unittest.TestCase):
    def test_a_receiver_that_delivers_each_message(self):
        pair = Pair(caller(1), counter([0], 0))
        self.assertEqual(rest(pair, []), ([0], True, True))

    def test_only_what_is_delivered_from_the_earlier_round_on_counts(self):
        for gives, back, endless in (
            ([0, None, None], 1, False),
            ([None, 0, None], 1, True),
            ([None, None, 0], 1, True),
            ([0, 0, None], 2, False),
            ([0, 0, 0], 2, True),
            ([None, None, None], 0, False),
            ([0, None, None], 0, True),
        ):
            told = rest(Pair(caller(1), counter(gives, back)), [])
            values = [gift for gift in gives if gift is not None]
            self.assertEqual(told, (values, endless, True), (gives, back))

    def test_what_the_channels_held_is_no_round(self):
        pair = Pair(caller(1), counter([0, None], 1))
        self.assertEqual(rest(pair, [SEND]), ([0], False, True))
        pair = Pair(caller(1), counter([None, 0], 1))
        self.assertEqual(rest(pair, [SEND, SEND]), ([0, 0], True, True))

    def test_one_state_that_comes_again_is_not_enough(self):
        # The sender is at the beginning of each round in 0, the receiver counts to 3.
        pair = Pair(caller(1), counter([None, None, None, 0], 0))
        self.assertEqual(rest(pair, []), ([0], True, True))
        # The receiver stays in 0, the sender sends in its third state only.
        told = Sender(
            1, 1, 1,
            sends=[None, None, 0], ticks=[1, 2, 0], hears=[(0,)] * 3, takes=[(0,)] * 3, crashes=[0] * 3,
        )
        self.assertEqual(rest(Pair(told, counter([0], 0)), []), ([0], True, True))


class Free(unittest.TestCase):
    def test_a_sender_that_never_is(self):
        told = Sender(
            1, 1, 1,
            sends=[None, 0, 0], ticks=[0, 2, 1], hears=[(0,), (1,), (2,)], takes=[(1,), None, None], crashes=[0, 1, 1],
        )
        pair = Pair(told, counter([None], 0))
        self.assertIs(rest(pair, [])[2], True)
        self.assertIs(rest(pair, [HAND])[2], False)
        self.assertIs(rest(pair, [HAND, SEND])[2], False)
        self.assertIs(rest(pair, [HAND, CRASH_S])[2], False)

    def test_only_at_the_beginning(self):
        # The first tick leads out of the free state for ever.
        told = Sender(
            1, 1, 1,
            sends=[None, None], ticks=[1, 1], hears=[(1,), (1,)], takes=[(0,), None], crashes=[1, 1],
        )
        pair = Pair(told, samples.mute_receiver())
        self.assertIs(rest(pair, [])[2], True)
        self.assertIs(rest(pair, [HAND])[2], True)
        self.assertIs(rest(pair, [SEND])[2], False)

    def test_only_while_the_channel_backward_empties(self):
        # Each answer heard leads on; the state 2, behind two of them, is free.
        told = Sender(
            1, 1, 1,
            sends=[None] * 5, ticks=[4, 4, 4, 4, 4], hears=[(1,), (2,), (3,), (3,), (4,)],
            takes=[(1,), None, (1,), None, None], crashes=[1] * 5,
        )
        heard = Receiver(1, 1, 1, sends=[0, None], ticks=[0, 1], hears=[(1,)] * 2, gives=[(None,)] * 2, crashes=[1, 1])
        pair = Pair(told, heard)
        for answers, free in ((0, False), (1, True), (2, True)):
            run = [HAND] + [ANSWER] * answers + [CRASH_R]
            self.assertIs(rest(pair, run)[2], free)
        self.assertIs(rest(pair, [HAND, ANSWER, PASS_B, ANSWER, PASS_B, CRASH_R])[2], False)

    def test_only_between_the_events_of_a_round(self):
        # Behind its tick the sender is free, until the answer comes.
        told = Sender(
            1, 1, 1,
            sends=[None, 0, None], ticks=[0, 2, 2], hears=[(0,), (1,), (1,)], takes=[(1,), None, (1,)], crashes=[1] * 3,
        )
        heard = Receiver(1, 1, 1, sends=[0], ticks=[0], hears=[(0,)], gives=[(None,)], crashes=[0])
        self.assertIs(rest(Pair(told, heard), [HAND])[2], True)
        closed = Sender(
            1, 1, 1,
            sends=[None, 0, None], ticks=[0, 2, 2], hears=[(0,), (1,), (1,)], takes=[(1,), None, None], crashes=[1] * 3,
        )
        self.assertIs(rest(Pair(closed, heard), [HAND])[2], False)

    def test_only_in_a_later_round(self):
        # The sender counts its ticks, and passes one free state on its way.
        told = Sender(
            1, 1, 1,
            sends=[None] * 5, ticks=[1, 2, 3, 4, 4], hears=[(0,)] * 5, takes=[(1,), None, None, (0,), None],
            crashes=[1, 2, 3, 4, 4],
        )
        pair = Pair(told, samples.mute_receiver())
        self.assertIs(rest(pair, [HAND])[2], True)
        self.assertIs(rest(pair, [SEND] * 3)[2], True)
        self.assertIs(rest(pair, [SEND] * 4)[2], False)


class AgainstTheModel(unittest.TestCase):
    def test_some_talks(self):
        seen = set()
        for pair, run in model.samples(1500, 7, 20):
            states, _ = model.states_of(pair, run)
            told = rest(pair, run)
            self.assertEqual(told, model.rest(pair, states[-1]))
            seen.add((len(told[0]) > 0, told[1], told[2]))
        self.assertEqual(len(seen), 6)

    def test_greater_pairs(self):
        chance = random.Random(8)
        for _ in range(60):
            pair = model.random_pair(chance, 12)
            run = model.random_run(chance, pair, 20)
            self.assertEqual(rest(pair, run), model.rest(pair, model.states_of(pair, run)[0][-1]))


if __name__ == "__main__":
    unittest.main()
