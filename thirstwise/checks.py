"""What is asked of plain numbers, in one place for all files."""


def is_whole(value, least, most):
    # True and False are of the kind int in Python, but no numbers of a garden.
    if isinstance(value, bool) or not isinstance(value, int):
        return False
    return least <= value <= most


def is_set(number, bit):
    return number >> bit & 1 == 1
