"""A plain look at cases and trees, by Python's own fractions, apart from the program's own."""

from fractions import Fraction

from noughtcut.nets import with_weight
from tests.things import Draws, as_fraction
from tests.wishing import asked_of, come, weighs


def sums_of(net, pattern):
    """What all nodes come to by a pattern, as rows over the ins with the number behind them."""
    many = net.ins()
    ahead = [[Fraction(at == place) for at in range(many + 1)] for place in range(many)]
    found = []
    for nodes in net.told()[1]:
        sums = []
        for row, number in nodes:
            total = [Fraction(0)] * many + [as_fraction(number)]
            for weight, part in zip(row, ahead):
                total = [one + as_fraction(weight) * more for one, more in zip(total, part)]
            sums.append(total)
        found.append(sums)
        ahead = []
        for one in sums:
            ahead.append(one if pattern % 2 else [Fraction(0)] * (many + 1))
            pattern //= 2
    return found


def hidden_and_outs(nets, pattern):
    """The sums of all hidden nodes of nets by a pattern of them all, and those of all outs."""
    hidden, outs = [], []
    for net in nets:
        layers = sums_of(net, pattern % 2 ** net.hidden())
        hidden += [one for sums in layers[:-1] for one in sums]
        outs += layers[-1]
        pattern //= 2 ** net.hidden()
    return hidden, outs


def wishes_of(nets, box, pattern, many):
    """The wishes of a case, as rows with the number behind them."""
    found = asked_of(box, [])
    hidden, _ = hidden_and_outs(nets, pattern)
    for at, one in enumerate(hidden[:many]):
        if pattern >> at & 1:
            found.append([-by for by in one[:-1]] + [one[-1]])
        else:
            found.append(one[:-1] + [-one[-1]])
    return found


def aimed(nets, aim, pattern):
    """The sum over the ins that an aim comes to by a pattern, with the number behind the row."""
    _, outs = hidden_and_outs(nets, pattern)
    return [sum((as_fraction(by) * one[at] for by, one in zip(aim, outs)), Fraction(0)) for at in range(len(outs[0]))]


def ends_of(tree, path=()):
    """Each end of a tree with the way to it."""
    if tree[0] != "two":
        yield path, tree
        return
    for side in (1, 2):
        yield from ends_of(tree[side], path + (side,))


def put_at(tree, path, new):
    """The tree with another thing at the end of a way."""
    if not path:
        return new
    side = path[0]
    return tree[:side] + (put_at(tree[side], path[1:], new),) + tree[side + 1:]


def cases_of(nets, box, tree):
    """Each end of a tree with the wishes of its case, its pattern, and how many hidden nodes are decided there."""
    for path, end in ends_of(tree):
        pattern = sum(2 ** at for at, side in enumerate(path) if side == 2)
        yield end, wishes_of(nets, box, pattern, len(path)), pattern, len(path)


def against(wishes, multiples, strict=()):
    """Whether multiples show that no spot keeps all wishes, those at the strict places strictly."""
    if len(multiples) != len(wishes) or any(one[0] < 0 for one in multiples):
        return False
    *row, total = come(wishes, multiples)
    return not any(row) and (total < 0 or total == 0 and any(multiples[at][0] for at in strict))


def bounds(wishes, multiples, one, most):
    """Whether multiples show that a sum, its number behind its row, is at most so much where all wishes hold."""
    if len(multiples) != len(wishes) or any(by[0] < 0 for by in multiples):
        return False
    *row, total = come(wishes, multiples)
    return row == one[:-1] and total + one[-1] <= most


def is_tree(nets, box, aim, number, tree):
    """Whether a tree closes an aim at a number, looked at end by end; the tree has the form of one that was told."""
    hidden = sum(net.hidden() for net in nets)
    for (word, multiples), wishes, pattern, many in cases_of(nets, box, tree):
        if word == "empty":
            good = against(wishes, multiples)
        else:
            wanted = aimed(nets, aim, pattern)
            good = word == "most" and many == hidden and bounds(wishes, multiples, wanted, as_fraction(number))
        if many > hidden or not good:
            return False
    return True


def weighed(nets, aim, spot):
    """What an aim weighs the outs of nets at a spot."""
    outs = [as_fraction(one) for net in nets for one in net.outs_at(spot)]
    return weighs([as_fraction(one) for one in aim], outs)


def nets_of(draws, hidden):
    """A list or a tuple of one or two nets with so many hidden nodes together."""
    ins = 1 + draws.below(3)
    first = hidden if draws.below(2) else draws.below(hidden + 1)
    nets = [one_net(draws, ins, first)]
    if first < hidden or draws.below(3) == 0:
        nets.append(one_net(draws, ins, hidden - first))
    return draws.one_of((list, tuple))(nets)


def one_net(draws, ins, hidden):
    """A net with so many hidden nodes, at most twelve, in at most three layers."""
    sizes = []
    while hidden:
        least = max(1, hidden - 4 * (2 - len(sizes)))
        sizes.append(least + draws.below(min(4, hidden) - least + 1))
        hidden -= sizes[-1]
    return draws.net(ins, [*sizes, 1 + draws.below(3)])


def large_nets(seed, shapes):
    """Nets over three ins with layers of these sizes, each also with a weight of thirty figures."""
    draws = Draws(seed)
    for shape in shapes:
        net = draws.net(3, shape)
        yield net
        yield with_weight(net, 0, 0, 0, draws.long_number(30))
