"""Systems of equations whose unknowns depend on one another by chances.

There is an equation whole * x = own + the sum of weight * y for each unknown x, over
unknowns y; whole and weights are integers, own is a fraction, nothing is below 0.
"""

from math import gcd, lcm

from shellways.ratios import reduced


class Row:
    """The equation of one unknown, times a common number, so that all in it are integers."""

    def __init__(self, whole, own, weights):
        self.whole = whole
        self.own = own
        self.weights = dict(weights)

    def leave_itself(self, name):
        """Brings the weight of the unknown itself to the other side."""
        self.whole -= self.weights.pop(name, 0)

    def put_in(self, name, row):
        """Puts the equation of another unknown into this one."""
        weight = self.weights.pop(name)
        self.whole *= row.whole
        self.own = self.own * row.whole + weight * row.own
        for other in list(self.weights):
            self.weights[other] *= row.whole
        for other, more in list(row.weights.items()):
            self.weights[other] = self.weights.get(other, 0) + weight * more
        self.shorten()

    def shorten(self):
        """Divides by what all numbers have in common: otherwise they would grow without need."""
        common = self.whole
        for weight in list(self.weights.values()):
            common = gcd(common, weight)
        common = gcd(common, self.own)
        if common > 1:
            self.whole //= common
            self.own //= common
            self.weights = {name: weight // common for name, weight in self.weights.items()}


def solved(equations):
    """Returns the values of all unknowns, fractions.

    `equations` is a dict from each unknown to the tuple (whole, own, weights), where
    weights is a dict from unknowns. There is just one solution.
    """
    scale = 1
    for _, own, _ in equations.values():
        scale = lcm(scale, own[1])
    rows = {}
    for name, (whole, own, weights) in equations.items():
        rows[name] = Row(whole, own[0] * (scale // own[1]), weights)
    names = list(rows)
    for place, name in enumerate(names):
        row = rows[name]
        row.leave_itself(name)
        for other in names[place + 1:]:
            later = rows[other]
            if name in later.weights:
                later.put_in(name, row)
    worth = {}
    for name in reversed(names):
        worth[name] = value_of(rows[name], worth)
    return {name: reduced(value[0], value[1] * scale) for name, value in worth.items()}


def value_of(row, worth):
    """Returns the value of an unknown that depends on known ones only."""
    bottom = 1
    for name in row.weights:
        bottom = lcm(bottom, worth[name][1])
    top = row.own * bottom
    for name, weight in row.weights.items():
        top += weight * worth[name][0] * (bottom // worth[name][1])
    return reduced(top, bottom * row.whole)
