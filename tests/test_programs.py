"""Point [4] and the interface under wipedtalk/programs.py."""

import unittest

from tests import samples
from tests.samples import receiver, receiver_parts, sender, sender_parts
from wipedtalk.errors import InvalidNumber, InvalidPair, InvalidProgram, InvalidTable, UnlikePrograms
from wipedtalk.programs import Pair, Receiver, Sender, keeps_nothing

COUNTS = ("value_count", "forward", "backward")
SENDER_TABLES = ("sends", "ticks", "hears", "takes", "crashes")
RECEIVER_TABLES = ("sends", "ticks", "hears", "gives", "crashes")
KINDS = ((Sender, sender_parts, SENDER_TABLES), (Receiver, receiver_parts, RECEIVER_TABLES))


class Properties(unittest.TestCase):
    def test_counts_and_tables(self):
        for kind, parts, tables in KINDS:
            program = kind(**parts())
            for name in COUNTS:
                self.assertEqual(getattr(program, name), parts()[name])
            for name in tables:
                told = getattr(program, name)
                self.assertIsInstance(told, tuple)
                self.assertEqual(told, tuple(parts()[name]))

    def test_numbers_by_position(self):
        for kind, parts, tables in KINDS:
            only = {name: parts()[name] for name in tables}
            self.assertEqual(kind(2, 3, 2, **only), kind(**parts()))
            with self.assertRaises(TypeError):
                kind(2, 3, 2, *only.values())

    def test_lists_and_tuples_are_taken_alike(self):
        for kind, parts, tables in KINDS:
            for name in tables:
                program = kind(**parts(**{name: tuple(parts()[name])}))
                self.assertEqual(program, kind(**parts()))
                self.assertEqual(getattr(program, name), tuple(parts()[name]))

    def test_tables_may_change_afterwards(self):
        for kind, parts, tables in KINDS:
            handed_in = parts()
            program = kind(**handed_in)
            self.assertEqual(handed_in, parts())
            for name in tables:
                handed_in[name].clear()
            self.assertEqual(program, kind(**parts()))

    def test_properties_cannot_be_set(self):
        for kind, parts, tables in KINDS:
            program = kind(**parts())
            for name in COUNTS + tables:
                with self.assertRaises(AttributeError):
                    setattr(program, name, 1)

    def test_one_state_and_one_value(self):
        one = samples.open_sender()
        self.assertEqual((one.value_count, one.forward, one.backward), (1, 1, 1))
        self.assertEqual((one.sends, one.ticks, one.hears), ((None,), (0,), ((0,),)))
        self.assertEqual((one.takes, one.crashes), (((0,),), (0,)))
        other = samples.mute_receiver()
        self.assertEqual((other.sends, other.ticks, other.hears), ((None,), (0,), ((0,),)))
        self.assertEqual((other.gives, other.crashes), (((None,),), (0,)))

    def test_the_greatest_numbers_that_may_stand(self):
        told = sender(sends=[2, 2, 0], ticks=[2, 2, 2], hears=[(2, 2)] * 3, takes=[(2, 2)] * 3, crashes=[2, 2, 2])
        self.assertEqual((told.sends, told.crashes, told.takes), ((2, 2, 0), (2, 2, 2), ((2, 2),) * 3))
        heard = receiver(sends=[1, 1], ticks=[1, 1], hears=[(1, 1, 1)] * 2, gives=[(1, 1, 1)] * 2, crashes=[1, 1])
        self.assertEqual((heard.sends, heard.gives, heard.crashes), ((1, 1), ((1, 1, 1),) * 2, (1, 1)))

    def test_none_in_tables(self):
        self.assertEqual(sender(sends=[None] * 3).sends, (None, None, None))
        self.assertEqual(sender(takes=[(0, 0), None, None]).takes, ((0, 0), None, None))
        self.assertEqual(receiver(sends=[None] * 2).sends, (None, None))
        self.assertEqual(receiver(gives=[(None,) * 3] * 2).gives, ((None, None, None),) * 2)

    def test_beyond_the_limits_no_error_is_raised(self):
        many = 70
        told = Sender(
            10, 61, 61,
            sends=[60] * many, ticks=[0] * many, hears=[(0,) * 61] * many, takes=[(0,) * 10] * many,
            crashes=[0] * many,
        )
        heard = Receiver(
            10, 61, 61,
            sends=[60] * many, ticks=[0] * many, hears=[(0,) * 61] * many, gives=[(9,) * 61] * many,
            crashes=[0] * many,
        )
        self.assertEqual(Pair(told, heard).sender.sends, (60,) * many)


class Equality(unittest.TestCase):
    def test_like_programs(self):
        self.assertTrue(sender() == sender())
        self.assertFalse(sender() != sender())
        self.assertTrue(receiver() == receiver())
        self.assertFalse(receiver() != receiver())

    def test_each_property_of_a_sender_counts(self):
        changes = {
            "sends": [None, 0, 1], "ticks": [0, 1, 1], "hears": [(0, 0), (0, 1), (2, 1)],
            "takes": [(1, 2), (1, 2), (1, 2)], "crashes": [0, 0, 0], "forward": 4,
        }
        for name, change in changes.items():
            self.assertFalse(sender() == sender(**{name: change}), name)
            self.assertTrue(sender() != sender(**{name: change}), name)
        wider = sender(value_count=3, takes=[(1, 2, 0), None, (1, 2, 0)])
        self.assertFalse(sender() == wider)
        self.assertFalse(sender() == sender(backward=3, hears=[(0, 0, 0), (0, 1, 0), (2, 0, 0)]))

    def test_each_property_of_a_receiver_counts(self):
        changes = {
            "sends": [None, 0], "ticks": [0, 1], "hears": [(1, 0, 1), (1, 1, 1)],
            "gives": [(0, None, 1), (None, None, None)], "crashes": [0, 1], "backward": 3, "value_count": 3,
        }
        for name, change in changes.items():
            self.assertFalse(receiver() == receiver(**{name: change}), name)
            self.assertTrue(receiver() != receiver(**{name: change}), name)
        wider = receiver(forward=4, hears=[(1, 0, 1, 0), (1, 1, 0, 0)], gives=[(0, None, 1, 0), (None, None, 1, 0)])
        self.assertFalse(receiver() == wider)

    def test_one_number_that_differs(self):
        def told(value_count, forward, backward):
            return samples.open_sender(value_count, forward, backward)

        def heard(value_count, forward, backward):
            return samples.mute_receiver(value_count, forward, backward)

        for make in (told, heard):
            for numbers in ((2, 1, 1), (1, 2, 1), (1, 1, 2)):
                self.assertFalse(make(1, 1, 1) == make(*numbers))

    def test_pairs(self):
        one = Pair(sender(), receiver())
        self.assertTrue(one == Pair(sender(), receiver()))
        self.assertFalse(one != Pair(sender(), receiver()))
        self.assertFalse(one == Pair(sender(crashes=[0, 0, 0]), receiver()))
        self.assertFalse(one == Pair(sender(), receiver(crashes=[0, 1])))

    def test_anything_else_is_unlike(self):
        for mine in (sender(), receiver(), Pair(sender(), receiver())):
            for thing in samples.anything():
                like = isinstance(thing, type(mine)) and thing != samples.echo()
                self.assertIs(mine == thing, like)
                self.assertIs(thing == mine, like)
                self.assertIs(mine != thing, not like)


class Numbers(unittest.TestCase):
    def test_each_number_is_an_integer_from_1_on(self):
        wrong = [0, -1, -(10 ** 99), *samples.non_integers()]
        for kind, parts, _ in KINDS:
            for name in COUNTS:
                for thing in wrong:
                    with self.assertRaises(InvalidNumber) as caught:
                        kind(**parts(**{name: thing}))
                    self.assertIs(caught.exception.thing, thing)

    def test_the_first_wrong_number_is_told(self):
        for kind, parts, _ in KINDS:
            with self.assertRaises(InvalidNumber) as caught:
                kind(**parts(value_count="a", forward="b", backward="c", sends=None))
            self.assertEqual(caught.exception.thing, "a")
            with self.assertRaises(InvalidNumber) as caught:
                kind(**parts(forward="b", backward="c", sends=None))
            self.assertEqual(caught.exception.thing, "b")
            with self.assertRaises(InvalidNumber) as caught:
                kind(**parts(backward="c", sends=None))
            self.assertEqual(caught.exception.thing, "c")

    def test_numbers_that_the_tables_do_not_fit(self):
        great = 10 ** 99
        self.assert_table("takes", 0, Sender, sender_parts(value_count=great))
        self.assert_table("hears", 0, Sender, sender_parts(backward=great))
        self.assert_table("hears", 0, Receiver, receiver_parts(forward=great))
        self.assertEqual(sender(forward=great).forward, great)
        self.assertEqual(receiver(backward=great, value_count=great).value_count, great)

    def assert_table(self, name, row, kind, parts):
        with self.assertRaises(InvalidTable) as caught:
            kind(**parts)
        self.assertEqual((caught.exception.name, caught.exception.row), (name, row))


class Tables(unittest.TestCase):
    def assert_wrong(self, kind, parts, name, row):
        with self.assertRaises(InvalidTable) as caught:
            kind(**parts)
        self.assertEqual((caught.exception.name, caught.exception.row), (name, row))

    def test_what_is_no_list(self):
        for kind, parts, tables in KINDS:
            for name in tables:
                for thing in samples.non_lists():
                    self.assert_wrong(kind, parts(**{name: thing}), name, None)

    def test_lists_of_another_length(self):
        for kind, parts, tables in KINDS:
            for name in tables:
                self.assert_wrong(kind, parts(**{name: []}), name, None)
                self.assert_wrong(kind, parts(**{name: ()}), name, None)
                if name != "sends":
                    self.assert_wrong(kind, parts(**{name: parts()[name][:-1]}), name, None)
                    self.assert_wrong(kind, parts(**{name: parts()[name] * 2}), name, None)

    def test_the_length_of_sends_is_that_of_all(self):
        for kind, parts, _ in KINDS:
            self.assert_wrong(kind, parts(sends=[None] * 5), "ticks", None)
            self.assert_wrong(kind, parts(sends=[None]), "ticks", None)

    def assert_items(self, kind, parts, name, wrong, size):
        """Each wrong item is told at each state, and the first one of several."""
        right = parts()[name]
        for thing in wrong:
            for row in range(size):
                table = list(right)
                table[row] = thing
                self.assert_wrong(kind, parts(**{name: table}), name, row)
                self.assert_wrong(kind, parts(**{name: tuple(table)}), name, row)
                self.assert_wrong(kind, parts(**{name: right[:row] + [thing] * (size - row)}), name, row)

    def test_items_of_sends(self):
        common = [thing for thing in samples.non_integers() if thing is not None]
        self.assert_items(Sender, sender_parts, "sends", [-1, 3, 10 ** 99, *common], 3)
        self.assert_items(Receiver, receiver_parts, "sends", [-1, 2, 10 ** 99, *common], 2)

    def test_items_of_ticks_and_crashes(self):
        for name in ("ticks", "crashes"):
            self.assert_items(Sender, sender_parts, name, [-1, 3, 10 ** 99, *samples.non_integers()], 3)
            self.assert_items(Receiver, receiver_parts, name, [-1, 2, 10 ** 99, *samples.non_integers()], 2)

    def test_items_of_hears(self):
        numbers = [-1, 10 ** 99, *samples.non_integers()]
        wrong = [(), (0,), (0, 0, 0), [0, 0], *samples.non_tuples()]
        wrong += [(0, thing) for thing in [3, *numbers]] + [(thing, 0) for thing in [3, *numbers]]
        self.assert_items(Sender, sender_parts, "hears", wrong, 3)
        wrong = [(), (0, 0), (0, 0, 0, 0), [0, 0, 0], *samples.non_tuples()]
        wrong += [(0, thing, 0) for thing in [2, *numbers]] + [(0, 0, thing) for thing in [2, *numbers]]
        self.assert_items(Receiver, receiver_parts, "hears", wrong, 2)

    def test_items_of_takes(self):
        wrong = [(), (0,), (0, 0, 0), [0, 0], (None, None), (None, 0)]
        wrong += [thing for thing in samples.non_tuples() if thing is not None]
        for thing in [-1, 3, 10 ** 99, *samples.non_integers()]:
            wrong += [(0, thing), (thing, 0)]
        self.assert_items(Sender, sender_parts, "takes", wrong, 3)

    def test_the_state_0_is_free(self):
        self.assert_wrong(Sender, sender_parts(takes=[None, None, (1, 2)]), "takes", 0)
        self.assert_wrong(Sender, sender_parts(takes=[None, (9, 9), 7]), "takes", 0)
        self.assert_wrong(Sender, sender_parts(takes=(None, None, None)), "takes", 0)
        self.assert_wrong(Sender, sender_parts(takes=[None, None]), "takes", None)

    def test_items_of_gives(self):
        wrong = [(), (0, 0), (0, 0, 0, 0), [0, 0, 0], [None] * 3, *samples.non_tuples()]
        for thing in [-1, 2, 10 ** 99, *samples.non_integers()]:
            if thing is not None:
                wrong += [(0, thing, 0), (None, None, thing), (thing, None, 0)]
        self.assert_items(Receiver, receiver_parts, "gives", wrong, 2)

    def test_the_first_wrong_table_is_told(self):
        for kind, parts, tables in KINDS:
            for first in range(len(tables)):
                no_lists = {name: None for name in tables[first:]}
                self.assert_wrong(kind, parts(**no_lists), tables[first], None)
                if first > 0:
                    wrong_items = {name: [-1] * len(parts()["sends"]) for name in tables[first:]}
                    self.assert_wrong(kind, parts(**wrong_items), tables[first], 0)

    def test_a_wrong_item_ahead_of_what_is_no_list(self):
        for kind, parts, tables in KINDS:
            size = len(parts()["sends"])
            for first in range(len(tables) - 1):
                changes = {tables[first]: parts()[tables[first]][:-1] + [-1], tables[first + 1]: None}
                self.assert_wrong(kind, parts(**changes), tables[first], size - 1)


class Pairs(unittest.TestCase):
    def test_properties(self):
        one = Pair(sender(), receiver())
        self.assertEqual(one.sender, sender())
        self.assertEqual(one.receiver, receiver())
        self.assertEqual(Pair(receiver=receiver(), sender=sender()), one)
        for name in ("sender", "receiver"):
            with self.assertRaises(AttributeError):
                setattr(one, name, getattr(one, name))

    def test_what_is_no_sender(self):
        for thing in samples.anything():
            if not isinstance(thing, Sender):
                with self.assertRaises(InvalidProgram) as caught:
                    Pair(thing, receiver())
                self.assertIs(caught.exception.thing, thing)

    def test_what_is_no_receiver(self):
        for thing in samples.anything():
            if not isinstance(thing, Receiver):
                with self.assertRaises(InvalidProgram) as caught:
                    Pair(sender(), thing)
                self.assertIs(caught.exception.thing, thing)

    def test_the_sender_is_looked_at_first(self):
        with self.assertRaises(InvalidProgram) as caught:
            Pair("one", "other")
        self.assertEqual(caught.exception.thing, "one")
        with self.assertRaises(InvalidProgram) as caught:
            Pair(samples.open_sender(5), "other")
        self.assertEqual(caught.exception.thing, "other")

    def test_programs_that_do_not_fit(self):
        for numbers in ((2, 1, 1), (1, 2, 1), (1, 1, 2), (2, 2, 2)):
            with self.assertRaises(UnlikePrograms):
                Pair(samples.open_sender(*numbers), samples.mute_receiver())
            with self.assertRaises(UnlikePrograms):
                Pair(samples.open_sender(), samples.mute_receiver(*numbers))
            fitting = Pair(samples.open_sender(*numbers), samples.mute_receiver(*numbers))
            self.assertEqual(fitting.sender.value_count, numbers[0])


class KeepsNothing(unittest.TestCase):
    def test_both_programs(self):
        one = Pair(sender(), receiver())
        self.assertIs(keeps_nothing(one, "sender"), False)
        self.assertIs(keeps_nothing(one, "receiver"), True)
        other = Pair(sender(crashes=[0, 0, 0]), receiver(crashes=[0, 1]))
        self.assertIs(keeps_nothing(other, "sender"), True)
        self.assertIs(keeps_nothing(other, "receiver"), False)

    def test_arguments_by_name(self):
        self.assertIs(keeps_nothing(program="receiver", pair=samples.pair()), True)

    def test_the_state_0_itself_counts(self):
        one = Pair(sender(crashes=[1, 0, 0]), receiver(crashes=[1, 0]))
        self.assertIs(keeps_nothing(one, "sender"), False)
        self.assertIs(keeps_nothing(one, "receiver"), False)

    def test_states_that_it_never_comes_to_count(self):
        never = {"ticks": [0, 0, 0], "hears": [(0, 0)] * 3, "takes": [(0, 0)] * 3}
        one = Pair(sender(crashes=[0, 0, 2], **never), receiver())
        self.assertIs(keeps_nothing(one, "sender"), False)

    def test_one_state(self):
        one = Pair(samples.open_sender(), samples.mute_receiver())
        self.assertIs(keeps_nothing(one, "sender"), True)
        self.assertIs(keeps_nothing(one, "receiver"), True)

    def test_wrong_programs(self):
        wrong = [thing for thing in samples.anything() if thing != "sender" and thing != "receiver"]
        for thing in [*wrong, "Sender", "both", "sender "]:
            with self.assertRaises(InvalidProgram) as caught:
                keeps_nothing(samples.pair(), thing)
            self.assertIs(caught.exception.thing, thing)

    def test_wrong_pairs_come_first(self):
        for thing in samples.non_pairs():
            with self.assertRaises(InvalidPair) as caught:
                keeps_nothing(thing, "nobody")
            self.assertIs(caught.exception.thing, thing)


if __name__ == "__main__":
    unittest.main()
