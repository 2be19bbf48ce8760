"""Images: what sums of turns are modulo one great prime. Nothing is checked here.

A sum whose image is not 0 is not 0. The images stay small where exact sums would have thousands of digits.
"""

# ALL is the least common multiple of all orders; modulo the prime ROOT comes round after just so many steps.
ALL = 9690712164777231700912800
PRIME = 19381424329554463401825601
ROOT = 3721


def _power(base, exponent):
    total = 1
    while exponent > 0:
        if exponent % 2 == 1:
            total = total * base % PRIME
        base = base * base % PRIME
        exponent = exponent // 2
    return total


def first_image(order):
    """The image of the first turn."""
    return _power(ROOT, ALL // order)


def turn_images(order):
    """The images of all powers of the first turn, in order."""
    turn = first_image(order)
    found = [1]
    for _ in range(order - 1):
        found.append(found[-1] * turn % PRIME)
    return found


def image_of(turn, tops):
    """The image of tops, turn being that of the first turn."""
    total = 0
    for top in reversed(tops):
        total = (total * turn + top) % PRIME
    return total


def image_steps(lines):
    """The steps of lines of images: pairs (at, line) with an image other than 0 at the place at, and none ahead of it.

    They have the same sums as the lines, and are as few as can be.
    """
    steps = []
    for line in lines:
        for at, step in steps:
            factor = line[at]
            line = [(step[at] * one - factor * other) % PRIME for one, other in zip(line, step)]
        sounds = [at for at, one in enumerate(line) if one != 0]
        if sounds != []:
            steps.append((sounds[0], line))
    return steps


def are_apart(lines):
    """Whether no line of images comes of the others."""
    return len(image_steps(lines)) == len(lines)


def are_seen_apart(order, lines):
    """Whether the images of lines of tops show that none comes of the others; if they do not, it may yet be so."""
    turn = first_image(order)
    return are_apart([[image_of(turn, tops) for tops in line] for line in lines])
