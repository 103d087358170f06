"""The class Live of the interface under wipedtalk/live.py, by points [5] and [7]."""

import random
import unittest

from tests import model, samples
from tests.samples import ANSWER, CRASH_R, CRASH_S, HAND, LOSE_F, PASS_B, PASS_F, SEND
from wipedtalk.errors import InvalidEvent, InvalidPair, NothingDone, NotPossible
from wipedtalk.families import enduring, greeting, turn
from wipedtalk.live import Live
from wipedtalk.replays import breaking, one_crash, recorded
from wipedtalk.runs import delivered, possible, walked
from wipedtalk.verdicts import verdict


def told(live):
    """All that a live talk tells of itself."""
    return live.run, live.state, live.delivered, len(live), live.verdict()


def lead(pair, run):
    """A live talk that was led through a run."""
    live = Live(pair)
    for event in run:
        live.do(event)
    return live


class Leading(unittest.TestCase):
    def assert_like_functions(self, live, pair, run):
        self.assertEqual(
            told(live), (list(run), walked(pair, run), delivered(pair, run), len(run), verdict(pair, run)),
        )

    def test_at_first(self):
        for pair in (samples.echo(), samples.pair(), turn(2)):
            live = Live(pair)
            self.assertEqual(live.pair, pair)
            self.assertEqual(live.run, [])
            self.assertEqual(live.state, (0, 0, (), ()))
            self.assertEqual(live.delivered, [])
            self.assertEqual(len(live), 0)
            self.assertEqual(live.verdict(), verdict(pair, []))

    def test_some_events(self):
        live = Live(samples.echo())
        self.assertIsNone(live.do(("hand", 1)))
        self.assertEqual(live.state, (2, 0, (), ()))
        self.assertIsNone(live.do(SEND))
        self.assertIsNone(live.do(SEND))
        self.assertEqual(live.state, (2, 0, (1, 1), ()))
        self.assertEqual(live.do(PASS_F), 1)
        self.assertEqual(live.delivered, [1])
        self.assertEqual(live.verdict(), "wrong")
        self.assertIsNone(live.do(LOSE_F))
        self.assertIsNone(live.do(ANSWER))
        self.assertEqual(live.state, (2, 0, (), (0,)))
        self.assertIsNone(live.do(PASS_B))
        self.assertEqual(live.verdict(), "good")
        self.assertEqual(live.run, [("hand", 1), SEND, SEND, PASS_F, LOSE_F, ANSWER, PASS_B])
        self.assertEqual(len(live), 7)
        self.assertIsNone(live.do(CRASH_S))
        self.assertIsNone(live.do(CRASH_R))
        self.assertEqual(len(live), 9)

    def test_the_value_0_is_told(self):
        live = lead(samples.echo(), [HAND, SEND])
        self.assertEqual(live.do(PASS_F), 0)
        self.assertIs(type(live.state[0]), int)

    def test_the_verdict_excuses_both(self):
        for crash in (CRASH_S, CRASH_R):
            live = lead(samples.telling_pair(1), [HAND, SEND, LOSE_F])
            self.assertEqual(live.verdict(), "lost")
            live.do(crash)
            self.assertEqual(live.verdict(), "good")
            live.back()
            self.assertEqual(live.verdict(), "lost")

    def test_verdicts_change_nothing(self):
        live = lead(samples.echo(), [("hand", 1), SEND, SEND, PASS_F, ANSWER])
        first = told(live)
        self.assertEqual(told(live), first)
        self.assertEqual(told(live), first)
        live.do(PASS_B)
        self.assertEqual(live.state, (0, 0, (1,), ()))

    def test_drawn_runs(self):
        for pair, run in model.samples(150, 51, 20):
            live = Live(pair)
            states, values = model.states_of(pair, run)
            for place, event in enumerate(run):
                self.assertEqual(live.state, states[place])
                self.assertEqual(live.do(event), values[place])
                self.assert_like_functions(live, pair, run[:place + 1])
            self.assertEqual(live.state, states[-1])
            for place in range(len(run) - 1, -1, -1):
                self.assertEqual(live.back(), run[place])
                self.assertEqual(live.state, states[place])
                self.assert_like_functions(live, pair, run[:place])
            self.assertEqual(len(live), 0)

    def test_to_and_fro(self):
        chance = random.Random(52)
        for pair in [samples.echo(), samples.telling_pair(), enduring(2), turn(2), greeting(2)] * 3:
            live = Live(pair)
            run = []
            for _ in range(80):
                if run and chance.random() < 0.35:
                    self.assertEqual(live.back(), run.pop())
                else:
                    run.append(chance.choice(possible(pair, run)))
                    live.do(run[-1])
                self.assert_like_functions(live, pair, run)

    def test_just_the_possible_events_are_let(self):
        for pair, run in model.samples(80, 53, 8):
            live = lead(pair, run)
            state = live.state
            for event in model.all_events(pair, state):
                found = model.after(pair, state, event)
                if found is None:
                    with self.assertRaises(NotPossible) as caught:
                        live.do(event)
                    self.assertEqual(caught.exception.place, len(run))
                else:
                    self.assertEqual(live.do(event), found[1])
                    self.assertEqual(live.state, found[0])
                    self.assertEqual(live.back(), event)
                self.assertEqual(live.state, state)

    def test_runs_that_the_package_told(self):
        for pair, run in (
            (enduring(2), breaking(enduring(2), [])[1]),
            (enduring(1), recorded(enduring(1), "forward", 6)),
            (enduring(1), recorded(enduring(1), "backward", 6)),
            (greeting(1), one_crash(greeting(1))),
        ):
            live = Live(pair)
            for end, event in enumerate(run, start=1):
                live.do(event)
                self.assertEqual(live.state, walked(pair, run[:end]))
            self.assert_like_functions(live, pair, run)


class NewLists(unittest.TestCase):
    def test_what_is_read_is_new(self):
        live = lead(samples.echo(), [HAND, SEND, PASS_F])
        first = told(live)
        live.run.append(SEND)
        live.run.clear()
        live.delivered.append(1)
        live.delivered.clear()
        self.assertEqual(told(live), first)
        kept, given = live.run, live.delivered
        live.do(SEND)
        live.do(PASS_F)
        self.assertEqual((kept, given), (first[0], first[2]))
        self.assertEqual(live.delivered, [0, 0])

    def test_kinds(self):
        live = lead(samples.echo(), [HAND, SEND, PASS_F, ANSWER])
        self.assertIs(type(live.run), list)
        self.assertIs(type(live.delivered), list)
        self.assertIs(type(live.state), tuple)
        self.assertEqual([type(part) for part in live.state], [int, int, tuple, tuple])

    def test_talks_of_one_pair_do_not_touch_one_another(self):
        pair = samples.echo()
        one, other = Live(pair), Live(pair)
        one.do(HAND)
        one.do(SEND)
        self.assertEqual(told(other), told(Live(pair)))
        other.do(("hand", 1))
        other.do(SEND)
        other.do(SEND)
        self.assertEqual(one.state, (1, 0, (0,), ()))
        self.assertEqual(other.state, (2, 0, (1, 1), ()))
        one.back()
        one.back()
        self.assertEqual(other.run, [("hand", 1), SEND, SEND])
        self.assertEqual(told(one), told(Live(pair)))


class Errors(unittest.TestCase):
    def assert_unchanged(self, live, call, *arguments):
        """The error that a call raises, which leaves the live talk as it is."""
        first = told(live)
        with self.assertRaises((InvalidEvent, NotPossible, NothingDone)) as caught:
            call(*arguments)
        self.assertEqual(told(live), first)
        return caught.exception

    def test_what_is_no_pair(self):
        for thing in samples.non_pairs():
            with self.assertRaises(InvalidPair) as caught:
                Live(thing)
            self.assertIs(caught.exception.thing, thing)
        with self.assertRaises(InvalidPair):
            Live(Live(samples.echo()))

    def test_what_is_no_event(self):
        for run in ([], [HAND, SEND, SEND, PASS_F, ANSWER]):
            live = lead(samples.echo(2), run)
            for thing in samples.non_events(2):
                error = self.assert_unchanged(live, live.do, thing)
                self.assertIs(type(error), InvalidEvent)
                self.assertIsNone(error.place)

    def test_what_is_not_possible(self):
        live = Live(samples.echo(2))
        for event in (PASS_F, PASS_B, LOSE_F, ("lose", "backward", 10 ** 99)):
            error = self.assert_unchanged(live, live.do, event)
            self.assertIs(type(error), NotPossible)
            self.assertEqual(error.place, 0)
        live = lead(samples.echo(2), [HAND, SEND])
        for event in (HAND, ("hand", 1), PASS_B, ("lose", "forward", 1), ("lose", "backward", 0)):
            error = self.assert_unchanged(live, live.do, event)
            self.assertIs(type(error), NotPossible)
            self.assertEqual(error.place, 2)
        live.back()
        self.assertEqual(self.assert_unchanged(live, live.do, PASS_F).place, 1)

    def test_values_hang_on_the_pair(self):
        live = Live(samples.echo(1))
        self.assertIs(type(self.assert_unchanged(live, live.do, ("hand", 1))), InvalidEvent)
        live.do(HAND)
        self.assertIs(type(self.assert_unchanged(live, live.do, ("hand", 1))), InvalidEvent)
        self.assertIs(type(self.assert_unchanged(live, live.do, HAND)), NotPossible)

    def test_nothing_to_take_back(self):
        live = Live(samples.echo())
        self.assertIs(type(self.assert_unchanged(live, live.back)), NothingDone)
        live.do(HAND)
        self.assertEqual(live.back(), HAND)
        self.assertIs(type(self.assert_unchanged(live, live.back)), NothingDone)
        live.do(("hand", 1))
        self.assertEqual(live.state, (2, 0, (), ()))

    def test_by_name(self):
        live = Live(pair=samples.echo())
        self.assertIsNone(live.do(event=HAND))
        self.assertEqual(live.run, [HAND])


class WherePairsStand(unittest.TestCase):
    def test_a_live_talk_is_no_pair_and_no_event(self):
        live = Live(samples.echo())
        with self.assertRaises(InvalidPair):
            walked(live, [])
        with self.assertRaises(InvalidEvent):
            walked(samples.echo(), [live])
        with self.assertRaises(InvalidEvent):
            walked(samples.echo(), live)
        self.assertEqual(self.assert_read_only(live), [])

    def assert_read_only(self, live):
        for name in ("pair", "run", "state", "delivered"):
            with self.assertRaises(AttributeError):
                setattr(live, name, None)
        return live.run


if __name__ == "__main__":
    unittest.main()
