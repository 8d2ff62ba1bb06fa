"""What several tests need: things that are no whole numbers, crowds, and walks through all throws of a node."""

from fractions import Fraction

NO_WHOLE_NUMBERS = (None, True, False, 0.0, 1.0, 1.5, float("nan"), float("inf"), 1j, "", "0", "1", "few", b"1", (), (0,),
                    (1, 1), [], [0], [1], {}, {1: 1}, {1}, object(), int, len, range(3), Fraction(1), Fraction(1, 2))


def crowd_by(sizes, places=None, path=()):
    """A crowd with these sizes, at the places 0, 1, 2 .. if no others are told."""
    return list(zip(places or range(len(sizes)), sizes, [path] * len(sizes)))


def walk(node):
    """Each way to throw, every side of every die: tuples (throws, what is kept, the share as a Fraction)."""
    ahead = [((), node, Fraction(1))]
    while ahead:
        throws, here, part = ahead.pop()
        if here.is_told():
            yield throws, here.kept(), part
        else:
            for throw in range(here.sides()):
                ahead.append((throws + (throw,), here.after(throw), part / here.sides()))


def walked_table(node):
    """The table of a node, by every throw."""
    found = {}
    for throws, kept, part in walk(node):
        found[kept] = found.get(kept, 0) + part
    return [(kept, pair(found[kept])) for kept in sorted(found)]


def walked_matrix(node, places):
    """The matrix of a node, by every throw."""
    walked = list(walk(node))
    return [[pair(sum(part for throws, kept, part in walked if one in kept and other in kept)) for other in places]
            for one in places]


def ways(node):
    """Each way part by part, for dice of too many sides to throw all of them: tuples (what is kept, the share)."""
    if node.is_told():
        return [(node.kept(), Fraction(1))]
    return [(kept, part * Fraction(many, node.sides())) for many, after in node.parts() for kept, part in ways(after)]


def shape(node):
    """The whole of a node: what it keeps, or a list of tuples (sides of the part, the shape behind it)."""
    return node.kept() if node.is_told() else [(many, shape(after)) for many, after in node.parts()]


def pair(number):
    """A fraction as it is told, of a Fraction or an int."""
    return (Fraction(number).numerator, Fraction(number).denominator)
