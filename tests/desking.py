"""Desks with nets and boxes at them, and what they tell, written apart from the program."""

from noughtcut.desk import Desk
from noughtcut.nettext import show_box, show_net
from tests.things import as_fraction


def one_line(text):
    """A text as it stands in a line."""
    return text.replace("\n", " / ")


def desk_with(nets, boxes):
    """A desk that keeps these nets and boxes by their names."""
    desk = Desk()
    for name, net in nets.items():
        assert desk.say(f"net {name} {one_line(show_net(net))}") == "ok"
    for name, box in boxes.items():
        assert desk.say(f"box {name} {one_line(show_box(box))}") == "ok"
    return desk


def written(row):
    """The fractions of a row as a desk writes them."""
    return " ".join(str(as_fraction(one)) for one in row)


def wires(found):
    """Wires as a desk writes them."""
    return " ; ".join(" ".join(str(part) for part in wire) for wire in found) or "-"


def kept_at(desk, nets, boxes):
    """What a desk keeps by these names: the texts, or the class of the refusal."""
    found = {}
    for word, names in (("show", nets), ("sides", boxes)):
        for name in names:
            try:
                found[word, name] = desk.say(f"{word} {name}")
            except ValueError as refusal:
                found[word, name] = (refusal.__class__.__name__, vars(refusal))
    return found
