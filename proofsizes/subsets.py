"""Sets of subsets of some few things, as bits of an integer: the bit with a subset's number stands for it.

The number of a subset has a bit for each thing that is in it.
"""


class Subsets:
    """All subsets of so many things."""

    def __init__(self, many):
        self.many = many
        self.every = (1 << (1 << many)) - 1

    def with_one(self, at):
        """The bits for all subsets with a thing."""
        half = 1 << at
        bits = ((1 << half) - 1) << half
        width = 2 * half
        while width < 1 << self.many:
            bits = bits | bits << width
            width = 2 * width
        return bits

    def least_of(self, bits):
        """The bits for those subsets of some that have no other one of them within, if all larger ones are some."""
        larger = 0
        for at in range(self.many):
            without = self.every ^ self.with_one(at)
            larger = larger | (bits & without) << (1 << at)
        return bits ^ (bits & larger)

    def rows_of(self, bits):
        """The list of the ascending tuples of the things in each of some subsets."""
        rows = []
        signs = f"{bits:b}"
        for number, sign in enumerate(signs[::-1]):
            if sign == "1":
                rows.append(tuple([at for at in range(self.many) if number >> at & 1]))
        return rows


def many_bits(bits):
    """How many bits of an integer are 1."""
    signs = f"{bits:b}"
    return signs.count("1")
