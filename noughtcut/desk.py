"""A desk: it keeps nets and boxes by their names, and is told lines."""

from noughtcut.deskasks import answer_of, asks_something, show_wires
from noughtcut.desklines import kinds_of, read_line
from noughtcut.errors import NoLine, NoName
from noughtcut.needless import slimmed
from noughtcut.nets import with_number, with_weight
from noughtcut.nettext import read_box, read_net
from noughtcut.together import behind, beside, opposite


class Desk:
    """Nets and boxes, each by a name of its kind, and what they were ahead of each line that changed something."""

    def __init__(self):
        self._nets = {}
        self._boxes = {}
        self._earlier = []

    def say(self, line):
        """Do what a line says, and tell a text."""
        told = read_line(line)
        word = told[0]
        things = self._things(word, told[1:])
        if asks_something(word):
            return answer_of(word, things)
        if word == "undo":
            return self._undo(line)
        name = told[1]
        if word == "slim":
            net, gone = slimmed(things[0], things[1])
            self._keep({**self._nets, name: net}, self._boxes)
            return show_wires(gone)
        if word == "box":
            self._keep(self._nets, {**self._boxes, name: read_box(things[1])})
        else:
            self._keep({**self._nets, name: _made(word, things)}, self._boxes)
        return "ok"

    def _things(self, word, told):
        """What stands behind the first word, the nets and boxes that are kept in the place of their names."""
        found = []
        for kind, thing in zip(kinds_of(word), told):
            if kind == "net":
                found.append(_kept(self._nets, thing))
            elif kind == "box":
                found.append(_kept(self._boxes, thing))
            else:
                found.append(thing)
        return found

    def _keep(self, nets, boxes):
        """Keep these nets and boxes from now on."""
        # Both are new dicts where something is otherwise, so that those of earlier stay as they were.
        self._earlier.append((self._nets, self._boxes))
        self._nets = nets
        self._boxes = boxes

    def _undo(self, line):
        """Keep what was kept ahead of the last change."""
        if not self._earlier:
            raise NoLine(line)
        self._nets, self._boxes = self._earlier.pop()
        return "ok"


def _kept(things, name):
    """The thing that is kept by a name."""
    if name not in things:
        raise NoName(name)
    return things[name]


def _made(word, things):
    """The net that a line makes of what it names."""
    if word == "net":
        return read_net(things[1])
    if word == "weight":
        return with_weight(*things)
    if word == "number":
        return with_number(*things)
    if word == "behind":
        return behind(things[1], things[2])
    if word == "beside":
        return beside(things[1], things[2])
    return opposite(things[1])
