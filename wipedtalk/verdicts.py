"""What follows a run if nothing disturbs it any more, and how a run is judged."""

from wipedtalk.errors import InvalidExcusing
from wipedtalk.runs import walk

# Which programs may excuse, in each order in which they may be told.
EXCUSINGS = (
    (),
    ("sender",),
    ("receiver",),
    ("sender", "receiver"),
    ("receiver", "sender"),
)


class Rest:
    """The rest of a talk, as far as it has been led, and what was seen in it."""

    def __init__(self, talk):
        self.talk = talk
        self.gifts = []
        self.was_free = talk.is_free()

    def note_freedom(self):
        """Note whether the sender is free now; just its own events can change that."""
        if self.talk.is_free():
            self.was_free = True

    def pass_all_forward(self):
        """All messages in the channel forward pass."""
        while len(self.talk.channels["forward"]) > 0:
            value = self.talk.pass_forward()
            if value is not None:
                self.gifts.append(value)

    def pass_all_backward(self):
        """All messages in the channel backward pass."""
        while len(self.talk.channels["backward"]) > 0:
            self.talk.pass_backward()
            self.note_freedom()

    def play_round(self):
        """One round; the channels, empty ahead of it, hold at most one message in it."""
        self.talk.send()
        self.note_freedom()
        self.pass_all_forward()
        self.talk.answer()
        self.pass_all_backward()


def rest_of(talk):
    """Lead a talk to the end of its rest; the tuple that `rest` tells."""
    quiet = Rest(talk)
    quiet.pass_all_forward()
    quiet.pass_all_backward()
    gifts_ahead = {}
    states = (talk.sender_state, talk.receiver_state)
    while states not in gifts_ahead:
        gifts_ahead[states] = len(quiet.gifts)
        quiet.play_round()
        states = (talk.sender_state, talk.receiver_state)
    endless = len(quiet.gifts) > gifts_ahead[states]
    return quiet.gifts, endless, quiet.was_free


def rest(pair, run):
    """The values delivered in the rest of a run, whether endlessly, and whether the sender is ever free."""
    talk, _ = walk(pair, run)
    return rest_of(talk)


def check_excusing(excusing):
    """Raise InvalidExcusing if a thing is not a tuple of programs that may excuse."""
    if excusing not in EXCUSINGS:
        raise InvalidExcusing(excusing)


def handed(run):
    """The list of the values that are handed in a run."""
    return [event[1] for event in run if event[0] == "hand"]


def excused_count(run, excusing):
    """How many handings, the first ones of a run, are excused."""
    count = 0
    excused = 0
    for event in run:
        if event[0] == "hand":
            count += 1
        elif event[0] == "crash" and event[1] in excusing:
            excused = count
    return excused


def placed_gifts(run, outcomes):
    """For each delivery in a run its value, and how many handings are ahead of it."""
    count = 0
    gifts = []
    for event, value in zip(run, outcomes):
        if event[0] == "hand":
            count += 1
        if value is not None:
            gifts.append((value, count))
    return gifts


def can_give(gifts, handings):
    """Whether deliveries can be given to handings."""
    place = 0
    for value, ahead in gifts:
        limit = min(ahead, len(handings))
        # The first handing that fits leaves the most to the deliveries behind.
        while place < limit and handings[place] != value:
            place += 1
        if place == limit:
            return False
        place += 1
    return True


def can_give_all(gifts, handings, excused):
    """Whether deliveries can be given to handings so that each one behind the excused ones gets one."""
    split = len(gifts) - (len(handings) - excused)
    if split < 0:
        return False
    # As later deliveries go to later handings, the last ones go to the handings that are
    # not excused, one by one, and only excused ones are left to the others.
    for place, (value, ahead) in enumerate(gifts[split:], start=excused):
        if value != handings[place] or ahead <= place:
            return False
    return can_give(gifts[:split], handings[:excused])


def judged(talk, run, outcomes, excusing):
    """The verdict of a run, told the talk behind it (which is led to its end) and what each event delivered."""
    values, endless, free = rest_of(talk)
    handings = handed(run)
    gifts = placed_gifts(run, outcomes) + [(value, len(handings)) for value in values]
    if endless or not can_give(gifts, handings):
        return "wrong"
    if not can_give_all(gifts, handings, excused_count(run, excusing)):
        return "lost"
    if not free:
        return "stuck"
    return "good"


def verdict(pair, run, *, excusing=("sender", "receiver")):
    """The verdict of a run: "wrong", "lost", "stuck" or "good"."""
    talk, outcomes = walk(pair, run)
    check_excusing(excusing)
    return judged(talk, run, outcomes, excusing)
