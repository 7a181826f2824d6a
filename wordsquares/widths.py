"""The least width from which on something is so."""


def least_width(greatest, is_so):
    """The least whole number from 1 on at which something is so.

    It has to be so at the greatest one that is told, and at each one above one at which it is.
    """
    least = 1
    while least < greatest:
        width = (least + greatest) // 2
        if is_so(width):
            greatest = width
        else:
            least = width + 1
    return least
