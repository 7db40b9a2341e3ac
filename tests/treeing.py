"""A plain look at cases and trees, by Python's own fractions, apart from the program's own."""

from fractions import Fraction

from tests.things import as_fraction
from tests.wishing import asked_of, come, weighs


def sums_of(net, pattern):
    """What all nodes come to by a pattern, as rows over the ins with the number behind them."""
    many = net.ins()
    ahead = [[Fraction(at == place) for at in range(many + 1)] for place in range(many)]
    found = []
    for nodes in net.told()[1]:
        sums = []
        for row, number in nodes:
            total = [Fraction(0)] * many + [as_fraction(number)]
            for weight, part in zip(row, ahead):
                total = [one + as_fraction(weight) * more for one, more in zip(total, part)]
            sums.append(total)
        found.append(sums)
        ahead = []
        for one in sums:
            ahead.append(one if pattern % 2 else [Fraction(0)] * (many + 1))
            pattern //= 2
    return found


def hidden_and_outs(nets, pattern):
    """The sums of all hidden nodes of nets by a pattern of them all, and those of all outs."""
    hidden, outs = [], []
    for net in nets:
        layers = sums_of(net, pattern % 2 ** net.hidden())
        hidden += [one for sums in layers[:-1] for one in sums]
        outs += layers[-1]
        pattern //= 2 ** net.hidden()
    return hidden, outs


def wishes_of(nets, box, pattern, many):
    """The wishes of a case, as rows with the number behind them."""
    found = asked_of(box, [])
    hidden, _ = hidden_and_outs(nets, pattern)
    for at, one in enumerate(hidden[:many]):
        if pattern >> at & 1:
            found.append([-by for by in one[:-1]] + [one[-1]])
        else:
            found.append(one[:-1] + [-one[-1]])
    return found


def aimed(nets, aim, pattern):
    """The sum over the ins that an aim comes to by a pattern, with the number behind the row."""
    _, outs = hidden_and_outs(nets, pattern)
    return [sum((as_fraction(by) * one[at] for by, one in zip(aim, outs)), Fraction(0)) for at in range(len(outs[0]))]


def is_tree(nets, box, aim, number, tree, pattern=0, many=0):
    """Whether a tree closes an aim at a number, looked at end by end; the tree is one that was told."""
    hidden = sum(net.hidden() for net in nets)
    if tree[0] == "two":
        _, cut, kept = tree
        return many < hidden and is_tree(nets, box, aim, number, cut, pattern, many + 1) and is_tree(
            nets, box, aim, number, kept, pattern + 2 ** many, many + 1)
    word, multiples = tree
    wishes = wishes_of(nets, box, pattern, many)
    if len(multiples) != len(wishes) or any(one[0] < 0 for one in multiples):
        return False
    *row, total = come(wishes, multiples)
    if word == "empty":
        return not any(row) and total < 0
    *wanted, beside = aimed(nets, aim, pattern)
    return word == "most" and many == hidden and row == wanted and total + beside <= as_fraction(number)


def weighed(nets, aim, spot):
    """What an aim weighs the outs of nets at a spot."""
    outs = [as_fraction(one) for net in nets for one in net.outs_at(spot)]
    return weighs([as_fraction(one) for one in aim], outs)


def nets_of(draws, hidden):
    """A list or a tuple of one or two nets with so many hidden nodes together."""
    ins = 1 + draws.below(3)
    first = hidden if draws.below(2) else draws.below(hidden + 1)
    nets = [one_net(draws, ins, first)]
    if first < hidden or draws.below(3) == 0:
        nets.append(one_net(draws, ins, hidden - first))
    return draws.one_of((list, tuple))(nets)


def one_net(draws, ins, hidden):
    """A net with so many hidden nodes, at most twelve, in at most three layers."""
    sizes = []
    while hidden:
        least = max(1, hidden - 4 * (2 - len(sizes)))
        sizes.append(least + draws.below(min(4, hidden) - least + 1))
        hidden -= sizes[-1]
    return draws.net(ins, [*sizes, 1 + draws.below(3)])
