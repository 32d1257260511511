"""When two things are the same throughout."""


def is_same(one, other):
    """Whether the things are equal, and True nowhere stands for 1."""
    if isinstance(one, (list, tuple)) and type(one) is type(other):
        return len(one) == len(other) and all([is_same(mine, yours) for mine, yours in zip(one, other)])
    if isinstance(one, bool) or isinstance(other, bool):
        return type(one) is type(other) and one == other
    # In tuples even a thing that is not equal to itself is the same as itself.
    return (one,) == (other,)
