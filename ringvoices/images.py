"""Images: what sums of turns are modulo one great prime. Nothing is checked here.

A sum whose image is not 0 is not 0. The images stay small where exact sums would have thousands of digits.
"""

# ALL is the least common multiple of all orders; modulo the prime ROOT comes round after just so many steps.
ALL = 9690712164777231700912800
PRIME = 19381424329554463401825601
ROOT = 3721


def _power(base, exponent):
    total = 1
    while exponent > 0:
        if exponent % 2 == 1:
            total = total * base % PRIME
        base = base * base % PRIME
        exponent = exponent // 2
    return total


def _image(tops, turn):
    total = 0
    for top in reversed(tops):
        total = (total * turn + top) % PRIME
    return total


def are_seen_apart(order, lines):
    """Whether the images of lines of tops show that none comes of the others; if they do not, it may yet be so."""
    turn = _power(ROOT, ALL // order)
    steps = []
    for line in lines:
        found = [_image(tops, turn) for tops in line]
        for at, step in steps:
            factor = found[at]
            found = [(step[at] * one - factor * other) % PRIME for one, other in zip(found, step)]
        sounds = [at for at, one in enumerate(found) if one != 0]
        if sounds == []:
            return False
        steps.append((sounds[0], found))
    return True
