"""A talk that is led event by event, with undo."""

from wipedtalk.errors import InvalidEvent, NothingDone, NotPossible
from wipedtalk.programs import check_pair
from wipedtalk.runs import Talk, is_event, moment_of, talk_at
from wipedtalk.verdicts import judged


class Live:
    """A talk of a pair that is led event by event; the last event can be taken back."""

    def __init__(self, pair):
        check_pair(pair)
        self._pair = pair
        self._talk = Talk(pair)
        self._run = []
        # For each event the value that it delivered, or None, and the moment ahead of it.
        self._outcomes = []
        self._moments = []

    @property
    def pair(self):
        """The pair that talks."""
        return self._pair

    @property
    def run(self):
        """The list of the events so far."""
        return list(self._run)

    @property
    def state(self):
        """Both states and both channels as they are now, as `walked` tells them."""
        return moment_of(self._talk)

    @property
    def delivered(self):
        """The list of the values that have been delivered so far."""
        return [value for value in self._outcomes if value is not None]

    def __len__(self):
        return len(self._run)

    def verdict(self):
        """The verdict of the run so far, both programs excusing."""
        # The rest of the talk is led by a twin, so that this one stays where it is.
        twin = talk_at(self._pair, moment_of(self._talk))
        return judged(twin, self._run, self._outcomes, ("sender", "receiver"))

    def do(self, event):
        """Let an event happen; the value that is delivered by it, or None."""
        if not is_event(self._pair, event):
            raise InvalidEvent(None)
        if not self._talk.allows(event):
            raise NotPossible(len(self._run))
        self._moments.append(moment_of(self._talk))
        value = self._talk.step(event)
        self._run.append(event)
        self._outcomes.append(value)
        return value

    def back(self):
        """Take the last event back; that event."""
        if len(self._run) == 0:
            raise NothingDone()
        self._talk = talk_at(self._pair, self._moments.pop())
        self._outcomes.pop()
        return self._run.pop()
