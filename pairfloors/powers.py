"""Powers, by a loop: the language of this program has none but those whose exponents are written out."""


def power(base, exponent):
    """The product of as many bases as the exponent says, which is 0 or more."""
    result = 1
    for _ in range(exponent):
        result *= base
    return result
