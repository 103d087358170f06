"""Senders and receivers, told as tables, and pairs of them."""

from wipedtalk.checks import check_number, is_below, is_list, is_none_or_below
from wipedtalk.errors import InvalidPair, InvalidProgram, InvalidTable, UnlikePrograms


def check_counts(value_count, forward, backward):
    """Raise InvalidNumber for the first of the three numbers that is not one from 1 on."""
    check_number(value_count, 1)
    check_number(forward, 1)
    check_number(backward, 1)


def state_count(sends):
    """How many states the table sends tells of; InvalidTable if it tells of none."""
    if not is_list(sends) or len(sends) == 0:
        raise InvalidTable("sends", None)
    return len(sends)


def checked_table(name, table, size, fits):
    """The table as a tuple; InvalidTable if it is not a list of size items that fit."""
    if not is_list(table) or len(table) != size:
        raise InvalidTable(name, None)
    for row, item in enumerate(table):
        if not fits(item):
            raise InvalidTable(name, row)
    return tuple(table)


def message_table(table, size, messages):
    """The table sends: for each state None or one of so many messages."""
    return checked_table("sends", table, size, lambda item: is_none_or_below(item, messages))


def state_table(name, table, size):
    """The table ticks or crashes: for each state a state."""
    return checked_table(name, table, size, lambda item: is_below(item, size))


def are_states(item, many, size):
    """Whether an item of a table is a tuple of so many states, of size states in all."""
    return isinstance(item, tuple) and len(item) == many and all([is_below(state, size) for state in item])


def hearing_table(table, size, messages):
    """The table hears: for each state, and each message, a state."""
    return checked_table("hears", table, size, lambda item: are_states(item, messages, size))


def taking_table(table, size, value_count):
    """The table takes: for each state None or, for each value, a state."""
    if is_list(table) and len(table) == size and table[0] is None:
        # The state 0 is free in every sender.
        raise InvalidTable("takes", 0)
    return checked_table("takes", table, size, lambda item: item is None or are_states(item, value_count, size))


def are_gifts(item, many, value_count):
    """Whether an item of a table is a tuple of so many things, each None or a value."""
    if not isinstance(item, tuple) or len(item) != many:
        return False
    return all([is_none_or_below(value, value_count) for value in item])


def giving_table(table, size, messages, value_count):
    """The table gives: for each state, and each message, None or a value."""
    return checked_table("gives", table, size, lambda item: are_gifts(item, messages, value_count))


class Sender:
    """A program that is handed values and sends messages forward."""

    def __init__(self, value_count, forward, backward, *, sends, ticks, hears, takes, crashes):
        check_counts(value_count, forward, backward)
        size = state_count(sends)
        self._value_count = value_count
        self._forward = forward
        self._backward = backward
        self._sends = message_table(sends, size, forward)
        self._ticks = state_table("ticks", ticks, size)
        self._hears = hearing_table(hears, size, backward)
        self._takes = taking_table(takes, size, value_count)
        self._crashes = state_table("crashes", crashes, size)

    @property
    def value_count(self):
        """The number of values."""
        return self._value_count

    @property
    def forward(self):
        """The number of kinds of messages that the sender sends."""
        return self._forward

    @property
    def backward(self):
        """The number of kinds of messages that the receiver sends."""
        return self._backward

    @property
    def sends(self):
        """For each state the message that is sent at a tick, or None."""
        return self._sends

    @property
    def ticks(self):
        """For each state the state after a tick."""
        return self._ticks

    @property
    def hears(self):
        """For each state, and each message backward, the state after it is heard."""
        return self._hears

    @property
    def takes(self):
        """For each state None or, if it is free, for each value the state after it is handed."""
        return self._takes

    @property
    def crashes(self):
        """For each state the state after a crash."""
        return self._crashes

    def __eq__(self, other):
        return (
            isinstance(other, Sender)
            and self.value_count == other.value_count
            and self.forward == other.forward
            and self.backward == other.backward
            and self.sends == other.sends
            and self.ticks == other.ticks
            and self.hears == other.hears
            and self.takes == other.takes
            and self.crashes == other.crashes
        )


class Receiver:
    """A program that delivers values and sends messages backward."""

    def __init__(self, value_count, forward, backward, *, sends, ticks, hears, gives, crashes):
        check_counts(value_count, forward, backward)
        size = state_count(sends)
        self._value_count = value_count
        self._forward = forward
        self._backward = backward
        self._sends = message_table(sends, size, backward)
        self._ticks = state_table("ticks", ticks, size)
        self._hears = hearing_table(hears, size, forward)
        self._gives = giving_table(gives, size, forward, value_count)
        self._crashes = state_table("crashes", crashes, size)

    @property
    def value_count(self):
        """The number of values."""
        return self._value_count

    @property
    def forward(self):
        """The number of kinds of messages that the sender sends."""
        return self._forward

    @property
    def backward(self):
        """The number of kinds of messages that the receiver sends."""
        return self._backward

    @property
    def sends(self):
        """For each state the message that is sent at a tick, or None."""
        return self._sends

    @property
    def ticks(self):
        """For each state the state after a tick."""
        return self._ticks

    @property
    def hears(self):
        """For each state, and each message forward, the state after it is heard."""
        return self._hears

    @property
    def gives(self):
        """For each state, and each message forward, the value that is delivered when it is heard, or None."""
        return self._gives

    @property
    def crashes(self):
        """For each state the state after a crash."""
        return self._crashes

    def __eq__(self, other):
        return (
            isinstance(other, Receiver)
            and self.value_count == other.value_count
            and self.forward == other.forward
            and self.backward == other.backward
            and self.sends == other.sends
            and self.ticks == other.ticks
            and self.hears == other.hears
            and self.gives == other.gives
            and self.crashes == other.crashes
        )


def counts(program):
    """The numbers of values, and of messages forward and backward, of a program."""
    return program.value_count, program.forward, program.backward


class Pair:
    """A sender and a receiver that talk with one another."""

    def __init__(self, sender, receiver):
        if not isinstance(sender, Sender):
            raise InvalidProgram(sender)
        if not isinstance(receiver, Receiver):
            raise InvalidProgram(receiver)
        if counts(sender) != counts(receiver):
            raise UnlikePrograms()
        self._sender = sender
        self._receiver = receiver

    @property
    def sender(self):
        """The program that is handed values."""
        return self._sender

    @property
    def receiver(self):
        """The program that delivers values."""
        return self._receiver

    def __eq__(self, other):
        return isinstance(other, Pair) and self.sender == other.sender and self.receiver == other.receiver


def check_pair(pair):
    """Raise InvalidPair if a thing is not a pair."""
    if not isinstance(pair, Pair):
        raise InvalidPair(pair)


def keeps_nothing(pair, program):
    """Whether a program of a pair, "sender" or "receiver", is in the state 0 after each crash."""
    check_pair(pair)
    if program == "sender":
        crashes = pair.sender.crashes
    elif program == "receiver":
        crashes = pair.receiver.crashes
    else:
        raise InvalidProgram(program)
    return all([state == 0 for state in crashes])
