"""What lies nearest: how far shapes are apart, and the shape that lies nearest to all."""

from hoopcord.fractions import reduced
from hoopcord.shares import weights_by


def far(one, other):
    """Tell how many hoops are in just one of two shapes."""
    return len(set(one) ^ set(other))


def mean_far(book, cord, shape, base):
    """Tell how far the shape is from all shapes in the mean of their weights."""
    total, hooped = weights_by(book, cord, base)
    apart = 0
    for hoop in hooped:
        # A hoop parts the shape from those that have it, or else from those that don't.
        apart += total - hooped[hoop] if hoop in shape else hooped[hoop]
    return reduced(apart, total)


def majority(book, cord, base):
    """Tell the shape of the hoops that have more than half of all weights."""
    total, hooped = weights_by(book, cord, base)
    return tuple([hoop for hoop in hooped if 2 * hooped[hoop] > total])


def nearest(book, cord, base):
    """Tell the majority, and how far it is from all shapes in the mean."""
    shape = majority(book, cord, base)
    return (shape, mean_far(book, cord, shape, base))
