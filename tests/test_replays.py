"""Points [8], [9] and [10], and the interface under wipedtalk/replays.py."""

import copy
import random
import unittest

from tests import model, samples
from tests.samples import ANSWER, CRASH_R, CRASH_S, HAND, LOSE_F, PASS_B, PASS_F, SEND, asking_pair
from wipedtalk.errors import InvalidEvent, InvalidNumber, InvalidPair, KeepsSomething, NotPossible, NotSettled
from wipedtalk.families import enduring, greeting, turn
from wipedtalk.programs import Pair, Receiver, Sender, keeps_nothing
from wipedtalk.replays import breaking, one_crash, recorded
from wipedtalk.runs import delivered, possible, walked
from wipedtalk.verdicts import rest, verdict

ROUND = [SEND, PASS_F, ANSWER, PASS_B]


def size(pair):
    """The product of the numbers of states."""
    return len(pair.sender.sends) * len(pair.receiver.sends)


def with_crashes(pair, sender=None, receiver=None):
    """The pair with other states after crashes."""
    told, heard = pair.sender, pair.receiver
    counts = (told.value_count, told.forward, told.backward)
    return Pair(
        Sender(
            *counts, sends=told.sends, ticks=told.ticks, hears=told.hears, takes=told.takes,
            crashes=told.crashes if sender is None else sender,
        ),
        Receiver(
            *counts, sends=heard.sends, ticks=heard.ticks, hears=heard.hears, gives=heard.gives,
            crashes=heard.crashes if receiver is None else receiver,
        ),
    )


def forgetful(pair):
    """The pair with programs that keep nothing."""
    return with_crashes(pair, [0] * len(pair.sender.sends), [0] * len(pair.receiver.sends))


def mute_pair():
    """A pair of which nothing is ever delivered."""
    return Pair(samples.open_sender(), samples.mute_receiver())


def bases():
    return [
        enduring(1), enduring(2), turn(1), turn(2), greeting(1), greeting(2), samples.echo(1), samples.echo(2),
        asking_pair(3), asking_pair(4, True), samples.telling_pair(2),
    ]


def drawn_pairs(count, seed):
    """Pairs of many kinds, most of which deliver a value that is handed."""
    chance = random.Random(seed)
    told = bases()
    for place in range(count):
        if place % 4 == 0:
            yield model.random_pair(chance, 4)
        else:
            yield model.changed_pair(chance, chance.choice(told), chance.randint(0, 4))


class Told(unittest.TestCase):
    """What is asked of each run, and of each list of writes, that is told."""

    def assert_broken(self, pair, settled, events):
        self.assertIsInstance(events, list)
        self.assertEqual(events[:len(settled)], list(settled))
        self.assertLessEqual(len(events) - len(settled), 2 * size(pair) ** 2 + 6 * size(pair) + 8)
        self.assertNotEqual(model.verdict(pair, events, model.BOTH), "good")

    def assert_breaking(self, pair, settled):
        """What breaking tells is as the document says; the kind of what it told."""
        told = breaking(pair, settled)
        self.assertIsInstance(told, tuple)
        kind, things = told
        if model.verdict(pair, [*settled, HAND], model.BOTH) != "good":
            self.assertEqual(kind, "run")
            self.assert_broken(pair, settled, things)
            return "bad"
        writes = model.writes(pair, settled)
        if writes:
            self.assertEqual(told, ("writes", writes))
        else:
            self.assertEqual(kind, "run")
            self.assert_broken(pair, settled, things)
        return kind


class Breaking(Told):
    def test_a_first_handing_that_is_not_good(self):
        self.assertEqual(breaking(mute_pair(), []), ("run", [HAND]))
        # The run with a handing behind it is stuck.
        stuck = Pair(
            Sender(1, 1, 1, sends=[None, 0], ticks=[0, 1], hears=[(0,), (1,)], takes=[(1,), None], crashes=[0, 0]),
            Receiver(
                1, 1, 1, sends=[None, None], ticks=[0, 1], hears=[(1,), (1,)], gives=[(0,), (None,)], crashes=[0, 0],
            ),
        )
        self.assertEqual(verdict(stuck, [HAND]), "stuck")
        self.assertEqual(breaking(stuck, []), ("run", [HAND]))
        endless = Pair(
            Sender(1, 1, 1, sends=[0], ticks=[0], hears=[(0,)], takes=[(0,)], crashes=[0]),
            Receiver(1, 1, 1, sends=[None], ticks=[0], hears=[(0,)], gives=[(0,)], crashes=[0]),
        )
        self.assertEqual(breaking(endless, []), ("run", [HAND]))
        self.assertEqual(breaking(endless, [HAND, SEND, PASS_F]), ("run", [HAND, SEND, PASS_F, HAND]))

    def test_a_delivery_in_the_first_round_that_comes_again(self):
        kind, events = breaking(samples.echo(), [])
        self.assertEqual(kind, "run")
        self.assertEqual(events, [HAND, SEND, PASS_F, CRASH_R])
        self.assertEqual(verdict(samples.echo(), events), "wrong")

    def test_a_delivery_in_the_first_round_that_is_lost(self):
        kind, events = breaking(samples.telling_pair(2), [])
        self.assertEqual((kind, events), ("run", [HAND, SEND, LOSE_F]))
        self.assertEqual(verdict(samples.telling_pair(2), events), "lost")

    def test_recorded_answers_are_played_to_the_sender(self):
        pair = asking_pair(2)
        self.assertEqual(len(model.quiet(pair, model.START, None)), 3)
        kind, events = breaking(pair, [])
        self.assertEqual(kind, "run")
        self.assert_broken(pair, [], events)
        self.assertEqual(events, [
            HAND, SEND, CRASH_S,
            PASS_F, ANSWER, CRASH_R,
            HAND, SEND, PASS_B, SEND, CRASH_S,
            PASS_F, ANSWER, PASS_F, ANSWER, CRASH_R,
            HAND, SEND, LOSE_F, PASS_B, SEND, LOSE_F, PASS_B, SEND, LOSE_F,
        ])
        self.assertEqual(verdict(pair, events), "lost")

    def test_a_receiver_that_keeps_that_it_has_delivered(self):
        pair = with_crashes(samples.echo(), receiver=[0, 1])
        self.assertEqual(breaking(pair, []), ("writes", [("receiver", 1)]))
        # A crash that leads to the old state is no write, whatever it leads to elsewhere.
        self.assertEqual(breaking(with_crashes(samples.echo(), receiver=[1, 0]), [])[0], "run")

    def test_just_the_delivery_counts_if_it_comes_again(self):
        pair = with_crashes(samples.echo(), sender=[0, 1, 2], receiver=[0, 1])
        self.assertEqual(breaking(pair, []), ("writes", [("receiver", 1)]))
        pair = with_crashes(samples.echo(), sender=[0, 1, 2], receiver=[0, 0])
        self.assertEqual(breaking(pair, []), ("run", [HAND, SEND, PASS_F, CRASH_R]))

    def test_all_writes_in_their_order(self):
        # Ahead of the delivery in the fourth round the receiver is in 1, 0 and 1 behind its answers.
        told = [("sender", 1), ("receiver", 1), ("sender", 2), ("sender", 3), ("receiver", 3)]
        self.assertEqual(breaking(asking_pair(3, True), []), ("writes", told))
        pair = with_crashes(asking_pair(3), receiver=[0, 1])
        self.assertEqual(breaking(pair, []), ("writes", [("receiver", 1), ("receiver", 3)]))
        pair = with_crashes(asking_pair(3), sender=[0, 0, 2, 0, 0])
        self.assertEqual(breaking(pair, []), ("writes", [("sender", 2)]))

    def test_the_round_of_the_delivery_has_no_writes_if_nothing_comes_again(self):
        pair = with_crashes(asking_pair(3), sender=[1, 0, 0, 0, 0])
        # Behind its send in the fourth round the sender is in 0, and a crash there leads to 1.
        self.assertEqual(self.assert_breaking(pair, []), "run")

    def test_crashes_to_the_states_behind_the_settled_run(self):
        # Behind one answer the receiver is in 1: crashes that lead there are no writes.
        settled = [ANSWER, ("lose", "backward", 0)]
        pair = with_crashes(asking_pair(3), receiver=[1, 1])
        self.assertEqual(walked(pair, settled), (0, 1, (), ()))
        self.assertEqual(breaking(pair, settled)[0], "run")
        self.assertEqual(self.assert_breaking(pair, settled), "run")
        told = [("receiver", 1), ("receiver", 2), ("receiver", 3)]
        self.assertEqual(breaking(pair, []), ("writes", told))
        self.assertEqual(breaking(asking_pair(3), settled), ("writes", told))
        pair = with_crashes(asking_pair(3), receiver=[0, 1])
        self.assertEqual(breaking(pair, settled), ("writes", [told[0], told[2]]))

    def test_rounds_in_which_nothing_is_sent(self):
        # The sender tells its value in the fourth round, and in no other one anything is sent.
        silent = Pair(
            Sender(
                1, 1, 1, sends=[None, None, None, None, 0], ticks=[0, 2, 3, 4, 0], hears=[(0,)] * 5,
                takes=[(1,)] + [None] * 4, crashes=[0] * 5,
            ),
            Receiver(1, 1, 1, sends=[None], ticks=[0], hears=[(0,)], gives=[(0,)], crashes=[0]),
        )
        self.assertEqual(self.assert_breaking(silent, []), "run")
        kept = with_crashes(silent, sender=[0, 1, 2, 3, 4])
        self.assertEqual(breaking(kept, []), ("writes", [("sender", 1), ("sender", 2), ("sender", 3)]))

    def test_behind_a_longer_settled_run(self):
        for pair, settled in (
            (samples.echo(), [HAND, *ROUND]),
            (samples.echo(), [("hand", 1), *ROUND]),
            (asking_pair(1), [HAND, *ROUND, *ROUND]),
            (asking_pair(3), [HAND, *ROUND, *ROUND, *ROUND, *ROUND]),
        ):
            behind = breaking(pair, [])[1]
            for times in (1, 2, 5):
                self.assertEqual(self.assert_breaking(pair, settled * times), "run")
                # The programs are where they began, so the same breaks them.
                self.assertEqual(breaking(pair, settled * times), ("run", settled * times + behind))
                self.assertEqual(breaking(pair, tuple(settled) * times), ("run", settled * times + behind))

    def test_a_settled_run_that_is_not_good(self):
        # The value is delivered ahead of its handing: no handing behind it makes the run good.
        early = Pair(
            Sender(1, 1, 1, sends=[0, None], ticks=[1, 1], hears=[(0,)] * 2, takes=[(1,), (1,)], crashes=[0, 0]),
            Receiver(1, 1, 1, sends=[None], ticks=[0], hears=[(0,)], gives=[(0,)], crashes=[0]),
        )
        settled = [SEND, PASS_F, HAND]
        self.assertTrue(model.is_settled(early, settled))
        self.assertEqual(breaking(early, settled), ("run", settled + [HAND]))

    def test_a_settled_run_behind_which_it_is_not_quiet(self):
        # Alone the settled run is wrong, but a handing ends what the sender would say.
        loud = Pair(
            Sender(1, 2, 1, sends=[0, 1], ticks=[0, 0], hears=[(0,)] * 2, takes=[(1,), None], crashes=[0, 0]),
            Receiver(1, 2, 1, sends=[None], ticks=[0], hears=[(0, 0)], gives=[(None, 0)], crashes=[0]),
        )
        self.assertEqual(self.assert_breaking(loud, []), "run")
        settled = [SEND, PASS_F, SEND, PASS_F]
        self.assertEqual(self.assert_breaking(loud, settled), "run")
        told = Pair(
            Sender(1, 1, 1, sends=[0, 0], ticks=[0, 0], hears=[(0,)] * 2, takes=[(1,), None], crashes=[0, 0]),
            Receiver(
                1, 1, 1, sends=[None, None], ticks=[0, 1], hears=[(1,), (1,)], gives=[(0,), (None,)], crashes=[0, 0],
            ),
        )
        self.assertEqual(verdict(told, []), "wrong")
        self.assertEqual(verdict(told, [HAND]), "good")
        self.assertEqual(self.assert_breaking(told, []), "run")

    def test_drawn_pairs(self):
        chance = random.Random(11)
        kinds = []
        for pair in drawn_pairs(700, 12):
            for settled in model.settled_runs(chance, pair, 8)[:4]:
                kinds.append(self.assert_breaking(pair, settled))
        self.assertGreater(min(kinds.count(kind) for kind in ("bad", "run", "writes")), 150)

    def test_a_pair_that_keeps_nothing_is_told_a_run(self):
        for pair in drawn_pairs(300, 13):
            pair = forgetful(pair)
            kind, events = breaking(pair, [])
            self.assertEqual(kind, "run")
            self.assert_broken(pair, [], events)

    def test_the_rest_of_the_program_answers_alike(self):
        for pair in bases() + [forgetful(turn(2)), forgetful(greeting(2))]:
            kind, events = breaking(pair, [])
            if kind == "run":
                states, outcomes = model.states_of(pair, events)
                self.assertEqual(walked(pair, events), states[-1])
                self.assertEqual(delivered(pair, events), [value for value in outcomes if value is not None])
                self.assertEqual(possible(pair, events), model.possible(pair, states[-1]))
                self.assertEqual(rest(pair, events), model.rest(pair, states[-1]))
                self.assertNotEqual(verdict(pair, events), "good")

    def test_pairs_that_hold_out_write(self):
        chance = random.Random(14)
        for make in (turn, greeting):
            for values in (1, 2, 3):
                pair = make(values)
                for _ in range(15):
                    for settled in model.settled_runs(chance, pair, 15):
                        kind, writes = breaking(pair, settled)
                        self.assertEqual(kind, "writes")
                        self.assertEqual(writes, model.writes(pair, settled))
                        self.assertTrue(writes)

    def test_a_run_of_an_enduring_pair_needs_room(self):
        chance = random.Random(15)
        for room in range(1, 9):
            pair = enduring(room)
            for settled in model.settled_runs(chance, pair, 12):
                kind, events = breaking(pair, settled)
                if kind == "run":
                    self.assert_broken(pair, settled, events)
                    held = [max(len(state[2]), len(state[3])) for state in model.states_of(pair, events)[0]]
                    self.assertGreater(max(held), room)

    def test_what_is_told_is_new(self):
        settled = [HAND, SEND, PASS_F, ANSWER, PASS_B]
        for pair in (samples.echo(), with_crashes(samples.echo(), receiver=[0, 1]), mute_pair(), asking_pair()):
            for ahead in ([], settled):
                if not model.is_settled(pair, ahead):
                    continue
                kept = list(ahead)
                first = breaking(pair, ahead)
                again = copy.deepcopy(first)
                self.assertEqual(ahead, kept)
                first[1].append("more")
                self.assertEqual(ahead, kept)
                ahead.clear()
                self.assertEqual(breaking(pair, kept), again)

    def test_other_pairs_do_not_matter(self):
        one = samples.echo()
        like = with_crashes(one, receiver=[0, 1])
        other = Pair(like.sender, one.receiver)
        told = [breaking(pair, []) for pair in (one, like, other)]
        self.assertEqual([breaking(pair, []) for pair in (other, like, one)], told[::-1])
        self.assertEqual(told[0], told[2])
        self.assertNotEqual(told[0], told[1])


class BreakingErrors(unittest.TestCase):
    def assert_not_settled(self, pair, run):
        with self.assertRaises(NotSettled):
            breaking(pair, run)
        self.assertFalse(model.is_settled(pair, run))

    def test_other_values_than_those_handed(self):
        for run in ([HAND, SEND, LOSE_F], [HAND], [HAND, SEND, PASS_F, HAND]):
            self.assert_not_settled(samples.telling_pair(), run)
        twice = [HAND, SEND, SEND, PASS_F, PASS_F, ANSWER, PASS_B]
        self.assert_not_settled(samples.echo(), twice)
        # In another order, though each value is delivered once.
        late = [("hand", 0), SEND, ("hand", 1), SEND, PASS_F, PASS_F]
        self.assertEqual(breaking(samples.telling_pair(), late)[1][:6], late)
        turned = Pair(
            samples.telling_pair(2).sender,
            Receiver(2, 2, 1, sends=[None], ticks=[0], hears=[(0, 0)], gives=[(1, 0)], crashes=[0]),
        )
        self.assert_not_settled(turned, late)

    def test_channels_that_are_not_empty(self):
        run = [HAND, SEND, SEND, PASS_F, ANSWER, PASS_B]
        self.assert_not_settled(samples.echo(), run)
        self.assertEqual(breaking(samples.echo(), run + [LOSE_F])[0], "run")
        run = [HAND, SEND, PASS_F, ANSWER, PASS_B]
        self.assert_not_settled(asking_pair(), [ANSWER])
        self.assertEqual(breaking(asking_pair(), [ANSWER, PASS_B])[0], "writes")
        self.assertEqual(breaking(samples.echo(), run)[0], "run")

    def test_a_sender_that_is_not_free(self):
        run = [HAND, SEND, PASS_F]
        self.assert_not_settled(samples.echo(), run)
        self.assert_not_settled(samples.echo(), run + [ANSWER, ("lose", "backward", 0)])
        self.assertEqual(breaking(samples.echo(), run + [ANSWER, ("lose", "backward", 0), CRASH_S])[0], "run")

    def test_drawn_runs(self):
        for pair, run in model.samples(300, 16):
            for end in range(len(run) + 1):
                if model.is_settled(pair, run[:end]):
                    breaking(pair, run[:end])
                else:
                    with self.assertRaises(NotSettled):
                        breaking(pair, run[:end])

    def test_what_is_no_pair(self):
        for thing in samples.non_pairs():
            for run in ([], None, [HAND]):
                with self.assertRaises(InvalidPair) as caught:
                    breaking(thing, run)
                self.assertIs(caught.exception.thing, thing)

    def test_what_is_no_run(self):
        for thing in samples.non_lists():
            with self.assertRaises(InvalidEvent) as caught:
                breaking(samples.echo(), thing)
            self.assertIsNone(caught.exception.place)
        for thing in samples.non_events(2):
            with self.assertRaises(InvalidEvent) as caught:
                breaking(samples.echo(), [PASS_F, SEND, thing])
            self.assertEqual(caught.exception.place, 2)
        for run in ([SEND, PASS_F], [HAND, HAND], [ANSWER, PASS_B, PASS_B]):
            with self.assertRaises(NotPossible) as caught:
                breaking(samples.echo(), run)
            self.assertEqual(caught.exception.place, 1)

    def test_by_name(self):
        self.assertEqual(breaking(settled=(), pair=samples.echo()), breaking(samples.echo(), []))


class Recorded(unittest.TestCase):
    def assert_recorded(self, pair, channel, rounds):
        run = recorded(pair, channel, rounds)
        self.assertIsInstance(run, list)
        at, to, forward, backward = model.states_of(pair, run)[0][-1]
        told = model.quiet(pair, model.START, rounds)
        if channel == "forward":
            expected = (tuple(message for part in told for message in part["sent"][2]), ())
        else:
            expected = ((), tuple(message for part in told for message in part["answered"][3]))
        self.assertEqual((at, to, forward, backward), (0, 0, *expected))
        self.assertEqual(walked(pair, run), (0, 0, *expected))
        return expected

    def test_no_rounds(self):
        for channel in ("forward", "backward"):
            self.assert_recorded(samples.echo(), channel, 0)
            self.assertEqual(recorded(samples.echo(), channel, 0), [])

    def test_some_rounds(self):
        pair = asking_pair(3)
        self.assertEqual(self.assert_recorded(pair, "forward", 3), ((0, 0, 0), ()))
        self.assertEqual(self.assert_recorded(pair, "backward", 3), ((), (0, 0, 0)))
        # Behind the delivery the quiet talk goes on.
        self.assertEqual(self.assert_recorded(pair, "forward", 6), ((0, 0, 0, 1), ()))
        self.assertEqual(self.assert_recorded(pair, "backward", 6), ((), (0,) * 6))
        self.assertEqual(recorded(pair, "forward", 1), [HAND, SEND, CRASH_S])
        self.assertEqual(recorded(pair, "backward", 1), [HAND, SEND, CRASH_S, PASS_F, ANSWER, CRASH_R])

    def test_rounds_in_which_nothing_is_sent(self):
        self.assertEqual(self.assert_recorded(mute_pair(), "forward", 4), ((), ()))
        self.assertEqual(self.assert_recorded(mute_pair(), "backward", 4), ((), ()))
        self.assertEqual(self.assert_recorded(samples.echo(), "forward", 7), ((0,), ()))
        self.assertEqual(self.assert_recorded(samples.telling_pair(), "backward", 7), ((), ()))

    def test_up_to_36_rounds(self):
        for rounds in range(37):
            for channel in ("forward", "backward"):
                self.assert_recorded(enduring(2), channel, rounds)
        for pair in (asking_pair(10), samples.echo(3), enduring(8), forgetful(turn(3)), forgetful(greeting(3))):
            for channel in ("forward", "backward"):
                self.assert_recorded(pair, channel, 36)

    def test_drawn_pairs(self):
        chance = random.Random(17)
        for pair in drawn_pairs(250, 18):
            for channel in ("forward", "backward"):
                self.assert_recorded(forgetful(pair), channel, chance.randint(0, 9))

    def test_what_is_told_is_new(self):
        for rounds in (0, 3):
            first = recorded(asking_pair(), "forward", rounds)
            kept = list(first)
            first.append("more")
            self.assertEqual(recorded(asking_pair(), "forward", rounds), kept)

    def test_by_name(self):
        told = recorded(rounds=2, channel="backward", pair=asking_pair())
        self.assertEqual(told, recorded(asking_pair(), "backward", 2))

    def test_programs_that_keep_something(self):
        for pair, program in (
            (turn(1), "receiver"), (greeting(1), "sender"), (asking_pair(2, True), "sender"),
            (with_crashes(samples.echo(), sender=[0, 0, 1]), "sender"),
            (with_crashes(samples.echo(), receiver=[1, 0]), "receiver"),
        ):
            for rounds in (0, 2):
                with self.assertRaises(KeepsSomething) as caught:
                    recorded(pair, "forward", rounds)
                self.assertEqual(caught.exception.program, program)

    def test_a_state_that_is_never_come_to_counts(self):
        pair = with_crashes(samples.echo(), sender=[0, 0, 2])
        with self.assertRaises(KeepsSomething):
            recorded(pair, "forward", 0)
        with self.assertRaises(KeepsSomething):
            recorded(pair, "backward", 10 ** 99)

    def test_wrong_arguments_in_their_order(self):
        kept = asking_pair(2, True)
        for thing in samples.non_pairs():
            with self.assertRaises(InvalidPair) as caught:
                recorded(thing, None, None)
            self.assertIs(caught.exception.thing, thing)
        channels = [thing for thing in samples.anything() if thing not in ("forward", "backward")]
        for thing in channels + ["Forward", "forward ", ("forward",), ["backward"]]:
            with self.assertRaises(InvalidEvent) as caught:
                recorded(kept, thing, -1)
            self.assertIsNone(caught.exception.place)
        for thing in [-1, -(10 ** 99), *samples.non_integers()]:
            for channel in ("forward", "backward"):
                with self.assertRaises(InvalidNumber) as caught:
                    recorded(kept, channel, thing)
                self.assertIs(caught.exception.thing, thing)


class OneCrash(unittest.TestCase):
    def assert_one_crash(self, pair):
        run = one_crash(pair)
        self.assertIsInstance(run, list)
        crashes = [event for event in run if event[0] == "crash"]
        self.assertIn(crashes, ([], [CRASH_R]))
        self.assertNotEqual(model.verdict(pair, run, ("sender",)), "good")
        self.assertNotEqual(verdict(pair, run, excusing=("sender",)), "good")
        return run

    def test_a_first_handing_that_is_not_good(self):
        self.assertEqual(self.assert_one_crash(mute_pair()), [HAND])

    def test_a_delivery_that_comes_again(self):
        run = self.assert_one_crash(samples.echo())
        self.assertEqual(run, [HAND, SEND, PASS_F, CRASH_R])
        self.assertEqual(verdict(samples.echo(), run, excusing=("sender",)), "wrong")

    def test_a_message_that_is_lost(self):
        run = self.assert_one_crash(asking_pair(1))
        self.assertEqual(run, [HAND, SEND, PASS_F, ANSWER, PASS_B, SEND, LOSE_F, CRASH_R])
        self.assertEqual(verdict(asking_pair(1), run, excusing=("sender",)), "lost")

    def test_whatever_the_sender_keeps(self):
        for values in (1, 2, 3):
            self.assert_one_crash(greeting(values))
        for answers in (1, 2, 5):
            pair = with_crashes(asking_pair(answers), sender=list(range(answers + 2)))
            self.assertEqual(self.assert_one_crash(pair), one_crash(asking_pair(answers)))

    def test_pairs_that_hold_out_otherwise(self):
        for room in range(1, 9):
            self.assert_one_crash(enduring(room))

    def test_drawn_pairs(self):
        lengths = []
        for pair in drawn_pairs(500, 19):
            if keeps_nothing(pair, "receiver"):
                lengths.append(len(self.assert_one_crash(pair)))
            else:
                with self.assertRaises(KeepsSomething) as caught:
                    one_crash(pair)
                self.assertEqual(caught.exception.program, "receiver")
        self.assertGreater(len(lengths), 100)
        self.assertGreater(max(lengths), 10)

    def test_errors(self):
        for thing in samples.non_pairs():
            with self.assertRaises(InvalidPair) as caught:
                one_crash(thing)
            self.assertIs(caught.exception.thing, thing)
        for pair in (turn(1), asking_pair(2, True), with_crashes(samples.echo(), receiver=[1, 0])):
            with self.assertRaises(KeepsSomething) as caught:
                one_crash(pair)
            self.assertEqual(caught.exception.program, "receiver")

    def test_what_is_told_is_new(self):
        for pair in (mute_pair(), samples.echo(), asking_pair(1)):
            first = one_crash(pair)
            kept = list(first)
            first.append("more")
            self.assertEqual(one_crash(pair=pair), kept)


if __name__ == "__main__":
    unittest.main()
