"""Products, and the number of goings where it is told by one."""


def product_of(numbers):
    product = 1
    for number in numbers:
        product = product * number
    return product


def goings_by_parts(parts):
    """n! divided by the product of n numbers, which are known to part it."""
    return product_of(list(range(1, len(parts) + 1))) // product_of(parts)
