"""A node taken through sums: what it comes to where sums over other things stand for what is ahead of it."""

from noughtcut.sums import flat_sum, sum_plus, sum_times


def through(node, above, below, many):
    """The sum over so many things that a node comes to, taking a sum over them at each place.

    It takes the one of those above where its weight is above nought, the one of those below where it is below.
    """
    row, number = node
    total = flat_sum(many, number)
    for weight, one, other in zip(row, above, below):
        if weight[0] > 0:
            total = sum_plus(total, sum_times(weight, one))
        elif weight[0] < 0:
            total = sum_plus(total, sum_times(weight, other))
    return total
