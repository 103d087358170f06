"""Point [7] and `verdict` of the interface under wipedtalk/verdicts.py."""

import unittest
from itertools import product

from tests import model, samples
from tests.samples import ANSWER, CRASH_R, CRASH_S, HAND, LOSE_F, PASS_B, PASS_F, SEND, telling_pair
from wipedtalk.errors import InvalidEvent, InvalidExcusing, InvalidPair, NotPossible
from wipedtalk.programs import Pair, Receiver, Sender
from wipedtalk.verdicts import verdict

NONE, ONLY_S, ONLY_R, BOTH, BOTH_TURNED = samples.CHOICES


def talk(text):
    """A run of `telling_pair`, a letter an event: a, b and c hand 0, 1 and 2, T is a tick of the sender,
    d lets the first message be heard, l loses it, s and r crash the sender and the receiver."""
    run = []
    for letter in text:
        if letter in "abc":
            run.append(("hand", "abc".index(letter)))
        else:
            run.append({"T": SEND, "d": PASS_F, "l": LOSE_F, "s": CRASH_S, "r": CRASH_R}[letter])
    return run


class Plainly(unittest.TestCase):
    def test_good(self):
        for run in (
            [], [SEND, ANSWER], [HAND], [("hand", 1)], [HAND, SEND, PASS_F, ANSWER],
            [HAND, SEND, PASS_F, ANSWER, PASS_B, ("hand", 1)], [HAND, SEND, LOSE_F],
        ):
            self.assertEqual(verdict(samples.echo(), run), "good", run)

    def test_wrong_as_a_value_is_delivered_twice(self):
        self.assertEqual(verdict(samples.echo(), [("hand", 1), SEND]), "wrong")
        self.assertEqual(verdict(samples.echo(), [HAND, SEND, PASS_F]), "wrong")
        self.assertEqual(verdict(samples.echo(), [HAND, SEND, SEND, PASS_F, ANSWER, PASS_B]), "wrong")
        self.assertEqual(verdict(samples.echo(), [HAND, SEND, PASS_F, CRASH_R]), "wrong")

    def test_lost(self):
        run = talk("aTl")
        self.assertEqual(verdict(telling_pair(), run), "lost")
        self.assertEqual(verdict(telling_pair(), talk("aab")), "lost")

    def test_stuck(self):
        told = Sender(
            1, 1, 1,
            sends=[None, 0, None], ticks=[0, 2, 2], hears=[(0,), (1,), (2,)], takes=[(1,), None, None], crashes=[0] * 3,
        )
        heard = Receiver(1, 1, 1, sends=[None], ticks=[0], hears=[(0,)], gives=[(0,)], crashes=[0])
        pair = Pair(told, heard)
        self.assertEqual(verdict(pair, []), "good")
        self.assertEqual(verdict(pair, [HAND]), "stuck")
        self.assertEqual(verdict(pair, [HAND, SEND, PASS_F]), "stuck")
        self.assertEqual(verdict(pair, [HAND, SEND, LOSE_F]), "lost")
        self.assertEqual(verdict(pair, [HAND, SEND, PASS_F, CRASH_S]), "good")
        self.assertEqual(verdict(pair, [HAND, SEND, LOSE_F, CRASH_S]), "good")

    def test_free_between_the_events_of_a_round_is_not_stuck(self):
        def pair(free):
            told = Sender(
                1, 1, 1,
                sends=[None, 0, 0, None], ticks=[0, 2, 3, 3], hears=[(0,), (1,), (1,), (2,)],
                takes=[(1,), None, None, (1,) if free else None], crashes=[0] * 4,
            )
            heard = Receiver(
                1, 1, 1, sends=[0, 0], ticks=[0, 1], hears=[(1,), (1,)], gives=[(0,), (None,)], crashes=[0, 0],
            )
            return Pair(told, heard)

        # Behind the delivery the sender is in 2 ahead of its ticks, and in 3 until it hears an answer.
        run = [HAND, SEND, PASS_F]
        self.assertEqual(verdict(pair(True), run), "good")
        self.assertEqual(verdict(pair(False), run), "stuck")

    def test_the_empty_run_may_be_wrong(self):
        told = Sender(1, 1, 1, sends=[0, None], ticks=[1, 1], hears=[(0,), (0,)], takes=[(0,), (0,)], crashes=[0, 0])
        heard = Receiver(1, 1, 1, sends=[None], ticks=[0], hears=[(0,)], gives=[(0,)], crashes=[0])
        self.assertEqual(verdict(Pair(told, heard), []), "wrong")
        self.assertEqual(verdict(Pair(told, heard), ()), "wrong")

    def test_the_empty_run_may_be_anything_but_lost(self):
        self.assertEqual(verdict(Pair(samples.open_sender(), samples.mute_receiver()), []), "good")
        self.assertEqual(verdict(Pair(samples.open_sender(), samples.mute_receiver()), [HAND]), "lost")

    def test_endless_deliveries(self):
        # The first delivery could be given to a handing, but they never end.
        told = Sender(1, 1, 1, sends=[None, 0], ticks=[0, 1], hears=[(0,), (1,)], takes=[(1,), (1,)], crashes=[0, 0])
        heard = Receiver(1, 1, 1, sends=[None], ticks=[0], hears=[(0,)], gives=[(0,)], crashes=[0])
        pair = Pair(told, heard)
        self.assertEqual(verdict(pair, []), "good")
        for run in ([HAND], [HAND] * 5, [HAND, HAND, SEND, PASS_F]):
            for choice in samples.CHOICES:
                self.assertEqual(verdict(pair, run, excusing=choice), "wrong")
        self.assertEqual(verdict(pair, [HAND, SEND, PASS_F, CRASH_S]), "good")

    def test_wrong_is_told_ahead_of_stuck(self):
        told = Sender(
            1, 1, 1,
            sends=[None, 0, None], ticks=[0, 1, 2], hears=[(0,), (2,), (2,)], takes=[(1,), None, None], crashes=[0] * 3,
        )
        heard = Receiver(1, 1, 1, sends=[None, 0], ticks=[0, 0], hears=[(1,)] * 2, gives=[(0,)] * 2, crashes=[0, 0])
        pair = Pair(told, heard)
        self.assertEqual(verdict(pair, [HAND]), "stuck")
        self.assertEqual(verdict(pair, [HAND, SEND, PASS_F]), "wrong")


class Giving(unittest.TestCase):
    def assert_talks(self, *rows):
        for text, expected in rows:
            self.assertEqual(verdict(telling_pair(), talk(text), excusing=NONE), expected, text)

    def test_values_and_order(self):
        self.assert_talks(
            ("", "good"), ("a", "good"), ("aT", "good"), ("aTd", "good"), ("aTbTcTddd", "good"), ("aTbTcTdd", "good"),
            ("aTbTl", "lost"), ("aTaTl", "lost"), ("ab", "lost"), ("aTdbTdaTd", "good"),
        )

    def test_a_delivery_needs_a_handing_of_its_value(self):
        # The receiver takes each of the two values for the other one.
        swap = Pair(
            telling_pair(2).sender,
            Receiver(2, 2, 1, sends=[None], ticks=[0], hears=[(0, 0)], gives=[(1, 0)], crashes=[0]),
        )
        for choice in samples.CHOICES:
            self.assertEqual(verdict(swap, [("hand", 0)], excusing=choice), "wrong")
            self.assertEqual(verdict(swap, talk("bTd"), excusing=choice), "wrong")
        self.assertEqual(verdict(swap, talk("aTbTdd")), "wrong")
        self.assertEqual(verdict(swap, talk("abTd")), "lost")

    def test_a_delivery_needs_a_handing_ahead_of_it(self):
        # A message that was not handed is delivered ahead of a handing of its value.
        early = Pair(
            Sender(1, 1, 1, sends=[0, None], ticks=[1, 1], hears=[(0,)] * 2, takes=[(1,), (1,)], crashes=[0, 0]),
            Receiver(1, 1, 1, sends=[None], ticks=[0], hears=[(0,)], gives=[(0,)], crashes=[0]),
        )
        self.assertEqual(verdict(early, [SEND, PASS_F, HAND], excusing=NONE), "wrong")
        self.assertEqual(verdict(early, [SEND, HAND, PASS_F], excusing=NONE), "good")
        self.assertEqual(verdict(early, [SEND, HAND], excusing=NONE), "good")
        self.assertEqual(verdict(early, [SEND, HAND, HAND, PASS_F], excusing=NONE), "lost")
        self.assertEqual(verdict(early, [SEND, PASS_F, HAND, CRASH_R]), "wrong")
        # The one delivery can be given to the excused handing, but not to the one behind it.
        run = [SEND, HAND, PASS_F, CRASH_R, HAND]
        self.assertEqual(verdict(early, run), "lost")
        self.assertEqual(verdict(early, run + [CRASH_R]), "good")
        self.assertEqual(verdict(early, [SEND, HAND, CRASH_R, HAND, PASS_F]), "good")
        self.assertEqual(verdict(early, [SEND, HAND, CRASH_R, HAND]), "good")

    def test_two_deliveries_need_two_handings(self):
        twice = Pair(
            telling_pair(2).sender,
            Receiver(
                2, 2, 1, sends=[None] * 2, ticks=[0, 1], hears=[(1, 1), (1, 1)], gives=[(0, 1), (0, 1)], crashes=[0, 0],
            ),
        )
        run = [HAND, SEND, HAND, SEND, PASS_F, PASS_F]
        self.assertEqual(verdict(twice, run), "good")
        repeat = Pair(
            Sender(
                2, 2, 1,
                sends=[None, 0, 0, 1, 1], ticks=[0, 2, 0, 4, 0], hears=[(0,)] * 5, takes=[(1, 3)] * 5, crashes=[0] * 5,
            ),
            free_receiver(2),
        )
        # Each handing is told twice.
        self.assertEqual(verdict(repeat, [HAND]), "wrong")
        self.assertEqual(verdict(repeat, [HAND, HAND]), "good")
        self.assertEqual(verdict(repeat, [("hand", 1), HAND]), "wrong")
        self.assertEqual(verdict(repeat, [HAND, ("hand", 1), CRASH_R]), "wrong")
        self.assertEqual(verdict(repeat, [HAND, ("hand", 1), HAND, CRASH_R]), "good")
        self.assertEqual(verdict(repeat, [HAND, ("hand", 1), HAND]), "lost")
        self.assertEqual(verdict(repeat, [HAND, HAND, ("hand", 1), HAND, CRASH_S, HAND]), "good")

    def test_order_of_deliveries(self):
        self.assertEqual(verdict(telling_pair(), talk("aTbT")), "good")
        # Of two values that it is handed, whichever they are, this sender tells 1, and then 0.
        turning = Pair(
            Sender(
                2, 2, 1,
                sends=[None, None, 1, 0], ticks=[0, 1, 3, 0], hears=[(0,)] * 4, takes=[(1, 1), (2, 2), None, None],
                crashes=[0] * 4,
            ),
            free_receiver(2),
        )
        for choice in samples.CHOICES:
            for crash in ([], [CRASH_R]):
                self.assertEqual(verdict(turning, [("hand", 1), HAND] + crash, excusing=choice), "good")
                self.assertEqual(verdict(turning, [HAND, ("hand", 1)] + crash, excusing=choice), "wrong")


def free_receiver(values):
    return telling_pair(values).receiver


class Excusing(unittest.TestCase):
    def assert_choices(self, pair, run, verdicts):
        """The verdicts, in the order of the choices: none, the sender, the receiver, both."""
        for choice, expected in zip((NONE, ONLY_S, ONLY_R, BOTH), verdicts):
            self.assertEqual(verdict(pair, run, excusing=choice), expected, choice)
        self.assertEqual(verdict(pair, run, excusing=BOTH_TURNED), verdicts[3])
        self.assertEqual(verdict(pair, run), verdicts[3])

    def test_a_handing_ahead_of_a_crash(self):
        self.assert_choices(telling_pair(), talk("aTls"), ["lost", "good", "lost", "good"])
        self.assert_choices(telling_pair(), talk("aTlr"), ["lost", "lost", "good", "good"])
        self.assert_choices(telling_pair(), talk("aTlsr"), ["lost", "good", "good", "good"])

    def test_a_handing_behind_a_crash(self):
        self.assert_choices(telling_pair(), talk("saTl"), ["lost"] * 4)
        self.assert_choices(telling_pair(), talk("raTl"), ["lost"] * 4)
        self.assert_choices(telling_pair(), talk("aTlsaTl"), ["lost"] * 4)
        self.assert_choices(telling_pair(), talk("aTlsaT"), ["lost", "good", "lost", "good"])

    def test_the_last_crash_counts(self):
        self.assert_choices(telling_pair(), talk("aTlsaTls"), ["lost", "good", "lost", "good"])
        self.assert_choices(telling_pair(), talk("aTlraTls"), ["lost", "good", "lost", "good"])
        self.assert_choices(telling_pair(), talk("aTlsaTlr"), ["lost", "lost", "good", "good"])
        self.assert_choices(telling_pair(), talk("aTlraTlsaT"), ["lost", "good", "lost", "good"])

    def test_a_crash_in_the_state_0_excuses_all_ahead_of_it(self):
        run = talk("abcTls")
        self.assert_choices(telling_pair(), run, ["lost", "good", "lost", "good"])
        self.assert_choices(telling_pair(), talk("aTlbTlcTlr"), ["lost", "lost", "good", "good"])

    def test_an_excused_handing_may_be_delivered_too(self):
        self.assert_choices(telling_pair(), talk("aTsd"), ["good"] * 4)
        self.assert_choices(telling_pair(), talk("aTsbTdd"), ["good"] * 4)

    def test_no_crash_excuses_a_delivery(self):
        self.assert_choices(samples.echo(), [HAND, SEND, PASS_F, CRASH_R], ["wrong"] * 4)
        self.assert_choices(samples.echo(), [HAND, SEND, SEND, CRASH_S, CRASH_R], ["wrong"] * 4)

    def test_deliveries_go_to_the_handings_that_are_not_excused(self):
        # One of two like handings is lost: the one ahead of the crash, so it may be.
        self.assert_choices(telling_pair(), talk("aTlsaTd"), ["lost", "good", "lost", "good"])
        # What is delivered ahead of the second handing cannot be given to it.
        self.assert_choices(telling_pair(), talk("aTdsaTl"), ["lost"] * 4)
        # Nor may an earlier delivery go to a later handing than a later delivery does.
        self.assert_choices(telling_pair(), talk("abTsTcTdd"), ["lost", "good", "lost", "good"])
        self.assert_choices(telling_pair(), talk("aTbTlscTaTl"), ["lost", "good", "lost", "good"])
        self.assert_choices(telling_pair(), talk("aTbTscTaTlll"), ["lost"] * 4)

    def test_some_deliveries_more_than_handings_that_are_not_excused(self):
        self.assert_choices(telling_pair(), talk("aTbTcTsaTbT"), ["good"] * 4)
        self.assert_choices(telling_pair(), talk("aTbTlcTsaTbT"), ["lost", "good", "lost", "good"])
        self.assert_choices(telling_pair(), talk("aTbTlcTsaTbTddddr"), ["lost", "good", "good", "good"])

    def test_excusing_only_by_name(self):
        with self.assertRaises(TypeError):
            verdict(samples.echo(), [], BOTH)
        self.assertEqual(verdict(run=talk("aTls"), excusing=ONLY_S, pair=telling_pair()), "good")


class AgainstTheModel(unittest.TestCase):
    def test_some_talks_with_each_choice(self):
        counts = {}
        for pair, run in model.samples(2500, 9):
            for choice in samples.CHOICES:
                told = verdict(pair, run, excusing=choice)
                self.assertEqual(told, model.verdict(pair, run, choice))
                counts[told, choice] = counts.get((told, choice), 0) + 1
        for key in product(("wrong", "lost", "stuck", "good"), samples.CHOICES):
            self.assertGreater(counts.get(key, 0), 20, key)

    def test_all_short_talks_of_a_pair(self):
        pair = telling_pair(2)
        letters = "abTdlsr"
        seen = set()
        for length in range(6):
            for text in product(letters, repeat=length):
                run = talk(text)
                if not is_possible(pair, run):
                    continue
                for choice in samples.CHOICES[:4]:
                    told = verdict(pair, run, excusing=choice)
                    self.assertEqual(told, model.verdict(pair, run, choice))
                    seen.add(told)
        self.assertEqual(seen, {"lost", "good"})


def is_possible(pair, run):
    state = model.START
    for event in run:
        found = model.after(pair, state, event)
        if found is None:
            return False
        state = found[0]
    return True


class Errors(unittest.TestCase):
    def test_what_tells_no_programs_that_excuse(self):
        wrong = [thing for thing in samples.anything() if thing not in samples.CHOICES]
        wrong += [
            ("sender", "sender"), ("receiver", "receiver"), ("sender", "receiver", "sender"), ("both",), ("Sender",),
            ["sender"], ["sender", "receiver"], [], "sender", "receiver", None, ("sender", None), (("sender",),),
            ("sender", True), (samples.pair(),), ("sender", samples.pair()), ("",), ("sender", ""), {"sender": 1},
        ]
        for thing in wrong:
            with self.assertRaises(InvalidExcusing) as caught:
                verdict(samples.echo(), [HAND], excusing=thing)
            self.assertIs(caught.exception.thing, thing)

    def test_right_choices_are_let(self):
        for choice in samples.CHOICES:
            self.assertEqual(verdict(samples.echo(), [HAND], excusing=choice), "good")

    def test_pair_and_run_come_first(self):
        with self.assertRaises(InvalidPair):
            verdict(None, [("x",)], excusing=None)
        with self.assertRaises(InvalidEvent):
            verdict(samples.echo(), [PASS_F, ("x",)], excusing=None)
        with self.assertRaises(NotPossible):
            verdict(samples.echo(), [PASS_F], excusing=None)
        with self.assertRaises(InvalidExcusing):
            verdict(samples.echo(), [ANSWER], excusing=None)


if __name__ == "__main__":
    unittest.main()
