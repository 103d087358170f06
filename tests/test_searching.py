"""`least_broken` of the interface under wipedtalk/searching.py, by points [5] and [7]."""

import random
import unittest

from tests import model, samples
from tests.samples import ANSWER, CRASH_R, CRASH_S, HAND, LOSE_F, SEND, asking_pair, slow_pair
from wipedtalk.errors import InvalidExcusing, InvalidNumber, InvalidPair
from wipedtalk.families import enduring
from wipedtalk.programs import Pair, Receiver, Sender, keeps_nothing
from wipedtalk.replays import breaking
from wipedtalk.runs import possible
from wipedtalk.searching import least_broken
from wipedtalk.verdicts import verdict

NONE, ONLY_S, ONLY_R, BOTH, BOTH_TURNED = samples.CHOICES


class Plainly(unittest.TestCase):
    def test_the_empty_run(self):
        loud = Pair(
            Sender(1, 1, 1, sends=[0], ticks=[0], hears=[(0,)], takes=[(0,)], crashes=[0]),
            Receiver(1, 1, 1, sends=[None], ticks=[0], hears=[(0,)], gives=[(0,)], crashes=[0]),
        )
        for most in range(5):
            self.assertEqual(least_broken(loud, most), [])

    def test_most_is_0(self):
        mute = Pair(samples.open_sender(), samples.mute_receiver())
        self.assertIsNone(least_broken(mute, 0))
        self.assertIsNone(least_broken(samples.echo(), 0))

    def test_one_event(self):
        mute = Pair(samples.open_sender(3), samples.mute_receiver(3))
        for most in range(1, 5):
            self.assertEqual(least_broken(mute, most), [HAND])
        # Just the second value is lost.
        half = Pair(
            samples.telling_pair(2).sender,
            Receiver(2, 2, 1, sends=[None], ticks=[0], hears=[(0, 0)], gives=[(0, None)], crashes=[0]),
        )
        self.assertEqual(least_broken(half, 1), [("hand", 1)])

    def test_the_first_in_the_order_of_possible(self):
        # Two handings, of which the first value is not told, are ahead of all others.
        self.assertEqual(least_broken(samples.telling_pair(2), 4), [HAND, HAND])
        self.assertIsNone(least_broken(samples.telling_pair(2), 1))
        self.assertEqual(least_broken(samples.echo(), 4), [HAND, SEND])
        self.assertIsNone(least_broken(samples.echo(), 1))

    def test_the_first_event_that_differs_counts(self):
        # Behind an answer, or a crash, the receiver delivers nothing any more.
        tired = Pair(
            slow_pair(0).sender,
            Receiver(
                1, 1, 1, sends=[None, None], ticks=[1, 1], hears=[(0,), (1,)], gives=[(0,), (None,)], crashes=[1, 1],
            ),
        )
        for run in ([HAND, CRASH_R], [ANSWER, HAND], [CRASH_R, HAND]):
            self.assertEqual(verdict(tired, run, excusing=NONE), "lost")
        for excusing in samples.CHOICES:
            self.assertEqual(least_broken(tired, 4, excusing=excusing), [HAND, ANSWER])

    def test_more_events(self):
        for silent in (0, 1):
            run = [HAND] + [SEND] * (silent + 1) + [LOSE_F]
            self.assertEqual(least_broken(slow_pair(silent), len(run)), run)
            self.assertIsNone(least_broken(slow_pair(silent), len(run) - 1))
            self.assertEqual(least_broken(slow_pair(silent), 5), run)

    def test_nothing_is_found_within_few_events(self):
        for most in range(5):
            self.assertIsNone(least_broken(asking_pair(2), most))
        self.assertIsNone(least_broken(enduring(1), 4))

    def test_who_excuses(self):
        slow = slow_pair(1)
        self.assertEqual(least_broken(slow, 4), [HAND, SEND, SEND, LOSE_F])
        self.assertEqual(least_broken(slow, 4, excusing=BOTH), [HAND, SEND, SEND, LOSE_F])
        self.assertEqual(least_broken(slow, 4, excusing=ONLY_S), [HAND, SEND, SEND, LOSE_F])
        self.assertEqual(least_broken(slow, 4, excusing=ONLY_R), [HAND, CRASH_S])
        self.assertEqual(least_broken(slow, 4, excusing=NONE), [HAND, CRASH_S])
        self.assertIsNone(least_broken(slow, 3, excusing=BOTH_TURNED))

    def test_a_list_of_its_own(self):
        first = least_broken(samples.echo(), 4)
        self.assertIsInstance(first, list)
        first.append("more")
        self.assertEqual(least_broken(samples.echo(), 4), [HAND, SEND])


class AgainstTheModel(unittest.TestCase):
    def test_drawn_pairs(self):
        chance = random.Random(41)
        lengths = []
        for _ in range(60):
            pair = model.changed_pair(chance, chance.choice([
                samples.echo(2), asking_pair(1), enduring(1), samples.telling_pair(2), slow_pair(0), slow_pair(1),
            ]), chance.randint(0, 3))
            for excusing in samples.CHOICES:
                told = least_broken(pair, 3, excusing=excusing)
                self.assertEqual(told, model.least_broken(pair, 3, excusing))
                lengths.append(None if told is None else len(told))
                for most in range(3):
                    within = told is not None and len(told) <= most
                    self.assertEqual(least_broken(pair, most, excusing=excusing), told if within else None)
        for length in (None, 0, 1, 2, 3):
            self.assertIn(length, lengths)

    def test_random_pairs_with_four_events(self):
        chance = random.Random(42)
        for _ in range(120):
            pair = model.random_pair(chance)
            for excusing in (NONE, BOTH):
                self.assertEqual(least_broken(pair, 4, excusing=excusing), model.least_broken(pair, 4, excusing))
        for pair in (enduring(1), asking_pair(1), asking_pair(2), slow_pair(0), slow_pair(1), slow_pair(2)):
            self.assertEqual(least_broken(pair, 4), model.least_broken(pair, 4, BOTH))
            self.assertEqual(least_broken(pair, 4, excusing=NONE), model.least_broken(pair, 4, NONE))

    def test_what_is_found_is_broken(self):
        chance = random.Random(43)
        for _ in range(60):
            pair = model.changed_pair(chance, chance.choice([enduring(1), asking_pair(1), samples.echo(2)]), 2)
            for excusing in samples.CHOICES:
                told = least_broken(pair, 4, excusing=excusing)
                if told is not None:
                    self.assertNotEqual(model.verdict(pair, told, excusing), "good")
                    self.assertNotEqual(verdict(pair, told, excusing=excusing), "good")
                    self.assertTrue(all(event in possible(pair, told[:at]) for at, event in enumerate(told)))


class TheWholeProgram(unittest.TestCase):
    def test_pairs_that_keep_nothing_are_found_where_breaking_tells_a_short_run(self):
        chance = random.Random(44)
        found = 0
        for _ in range(300):
            pair = chance.choice([samples.echo(1), samples.telling_pair(2), slow_pair(0), slow_pair(1)])
            pair = model.changed_pair(chance, pair, chance.randint(0, 2))
            if not (keeps_nothing(pair, "sender") and keeps_nothing(pair, "receiver")):
                continue
            kind, events = breaking(pair, [])
            self.assertEqual(kind, "run")
            if len(events) <= 4:
                found += 1
                least = least_broken(pair, len(events))
                self.assertLessEqual(len(least), len(events))
                self.assertNotEqual(model.verdict(pair, least, BOTH), "good")
        self.assertGreater(found, 50)

    def test_a_run_that_is_found_for_an_enduring_pair_needs_room(self):
        for room in (1, 2):
            for excusing in samples.CHOICES:
                run = least_broken(enduring(room), 4, excusing=excusing)
                self.assertEqual(run, model.least_broken(enduring(room), 4, excusing))
                if run is not None and excusing in (BOTH, BOTH_TURNED):
                    states, _ = model.states_of(enduring(room), run)
                    self.assertGreater(max(len(channel) for state in states for channel in state[2:]), room)


class Arguments(unittest.TestCase):
    def test_by_name(self):
        told = least_broken(excusing=(), most=2, pair=samples.echo())
        self.assertEqual(told, [HAND, SEND])
        with self.assertRaises(TypeError):
            least_broken(samples.echo(), 2, ())

    def test_wrong_arguments_in_their_order(self):
        for thing in samples.non_pairs():
            with self.assertRaises(InvalidPair) as caught:
                least_broken(thing, -1, excusing=None)
            self.assertIs(caught.exception.thing, thing)
        for thing in [-1, -(10 ** 99), *samples.non_integers()]:
            with self.assertRaises(InvalidNumber) as caught:
                least_broken(samples.echo(), thing, excusing=None)
            self.assertIs(caught.exception.thing, thing)
        others = [thing for thing in samples.anything() if thing not in samples.CHOICES]
        others += [["sender"], ("sender", "sender"), ("sender", None), "sender", ("both",), ("sender", "receiver", 1)]
        for thing in others:
            for most in (0, 2, 10 ** 99):
                with self.assertRaises(InvalidExcusing) as caught:
                    least_broken(samples.echo(), most, excusing=thing)
                self.assertIs(caught.exception.thing, thing)

    def test_other_pairs_do_not_matter(self):
        pairs = [samples.echo(), samples.telling_pair(2), asking_pair(1), asking_pair(2)]
        pairs.append(Pair(pairs[2].sender, asking_pair(1, True).receiver))
        told = [least_broken(pair, 4) for pair in pairs]
        self.assertEqual([least_broken(pair, 4) for pair in pairs[::-1]], told[::-1])


if __name__ == "__main__":
    unittest.main()
