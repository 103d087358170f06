"""A look at every run of a pair in which no channel holds more than so many messages.

Each message carries the handing that was the sender's last one when it was sent, and each
delivery is given to the handing of its message. If that never fails, all these runs are good;
it may fail for a pair that is good for other reasons. The handings are told by numbers that are
lowered as older ones are forgotten, so that there are finitely many situations.
"""

from tests import model

QUIET = [("send",), ("pass", "forward"), ("answer",), ("pass", "backward")]


class Broken(Exception):
    """A situation in which the talk is broken."""


def step(pair, situation, event):
    """The situation behind an event."""
    state, marks, last, given, owed = situation
    behind, value = model.after(pair, state, event)
    marks = list(marks)
    if event[0] == "hand":
        if owed:
            raise Broken("handed ahead of the delivery")
        last = (max([given, last[0], *[mark[0] for mark in marks]]) + 1, event[1])
        owed = True
    elif event == ("send",) and len(behind[2]) > len(state[2]):
        marks.append(last)
    elif event == ("lose", "forward", event[-1]):
        del marks[event[2]]
    elif event[0] == "crash":
        owed = False
    elif event == ("pass", "forward"):
        mark = marks.pop(0)
        if value is not None:
            if mark[0] <= given or mark[1] != value:
                raise Broken("delivered twice, or not in order, or another value")
            given = mark[0]
            owed = owed and mark != last
    return behind, tuple(marks), last, given, owed


def lowered(situation):
    """The same situation with the lowest numbers for its handings."""
    state, marks, last, given, owed = situation
    order = {number: place for place, number in enumerate(sorted({0, given, last[0], *[mark[0] for mark in marks]}))}
    marks = tuple((order[number], value) for number, value in marks)
    return state, marks, (order[last[0]], last[1]), order[given], owed


def check_rest(pair, situation):
    """Raise Broken if the rest of a situation breaks the talk."""
    free = pair.sender.takes[situation[0][0]] is not None

    def lead(event):
        nonlocal situation, free
        if model.after(pair, situation[0], event) is not None:
            situation = step(pair, situation, event)
            free = free or pair.sender.takes[situation[0][0]] is not None

    for _ in situation[0][2]:
        lead(("pass", "forward"))
    for _ in situation[0][3]:
        lead(("pass", "backward"))
    seen = set()
    while situation[0] not in seen:
        seen.add(situation[0])
        for event in QUIET:
            lead(event)
    if situation[4]:
        raise Broken("lost")
    if not free:
        raise Broken("stuck")


def explore(pair, room):
    """How many situations there are; Broken if one of them is."""
    start = (model.START, (), (0, None), 0, False)
    seen = {start}
    todo = [start]
    while todo:
        situation = todo.pop()
        check_rest(pair, situation)
        for event in model.possible(pair, situation[0]):
            further = lowered(step(pair, situation, event))
            if max(len(further[0][2]), len(further[0][3])) <= room and further not in seen:
                seen.add(further)
                todo.append(further)
    return len(seen)
