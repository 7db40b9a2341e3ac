"""Nets and boxes as texts of rows: written, and read again."""

from noughtcut.boxes import MOST_PLACES, check_box, is_box
from noughtcut.errors import NoBox, NoText
from noughtcut.nets import MOST_INS, MOST_LAYERS, MOST_NODES, Net
from noughtcut.numbers import show_number
from noughtcut.textrows import fraction_in, rows_of


def show_net(net):
    """The text of a net."""
    layers = net.layers_told()
    rows = [f"ins {net.ins()}"]
    for at, nodes in enumerate(layers):
        word = "last" if at == len(layers) - 1 else "layer"
        rows.append(f"{word} {len(nodes)}")
        rows += [_node_row(node) for node in nodes]
    return "\n".join(rows)


def read_net(text):
    """The net that is written so."""
    rows = rows_of(text)
    ins = _read_ins(rows)
    layers = []
    ahead = ins
    at = 1
    last = False
    while not last:
        last, many = _read_head(rows, at, len(layers) + 1)
        layers.append([_read_node(rows, at + 1 + node, ahead) for node in range(many)])
        at = at + 1 + many
        ahead = many
    if at < len(rows):
        raise NoText(at)
    return Net(ins, layers)


def show_box(box):
    """The text of a box."""
    check_box(box)
    return "\n".join([f"from {show_number(low)} to {show_number(high)}" for low, high in box])


def read_box(text):
    """The box that is written so."""
    spans = []
    for at, row in enumerate(rows_of(text)):
        words = row.split(" ")
        if at >= MOST_PLACES or len(words) != 4 or words[0] != "from" or words[2] != "to":
            raise NoText(at)
        spans.append((fraction_in(words[1], at), fraction_in(words[3], at)))
    if not is_box(tuple(spans)):
        raise NoBox(tuple(spans))
    return tuple(spans)


def _node_row(node):
    """The row of a node."""
    weights, number = node
    return " ".join(["node"] + [show_number(weight) for weight in weights] + [":", show_number(number)])


def _words_at(rows, at):
    """The words of a row; where there is none any more it is told how many there are."""
    if at >= len(rows):
        raise NoText(len(rows))
    return rows[at].split(" ")


def _read_ins(rows):
    """How many ins the first row tells."""
    words = _words_at(rows, 0)
    if len(words) != 2 or words[0] != "ins" or words[1] not in _counts(MOST_INS):
        raise NoText(0)
    return int(words[1])


def _read_head(rows, at, number):
    """Whether a layer of this number, from 1 on, is the last one, and how many nodes it has."""
    words = _words_at(rows, at)
    if len(words) != 2 or words[0] not in ("layer", "last") or words[1] not in _counts(MOST_NODES):
        raise NoText(at)
    if number == MOST_LAYERS and words[0] != "last":
        raise NoText(at)
    return (words[0] == "last", int(words[1]))


def _read_node(rows, at, ahead):
    """The node of a row, over so many things ahead."""
    words = _words_at(rows, at)
    if len(words) != ahead + 3 or words[0] != "node" or words[-2] != ":":
        raise NoText(at)
    weights = [fraction_in(word, at) for word in words[1:-2]]
    return (tuple(weights), fraction_in(words[-1], at))


def _counts(most):
    """The words for the whole numbers from 1 to the most."""
    return [str(many) for many in range(1, most + 1)]
