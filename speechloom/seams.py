"""Seams: what becomes of the letters where a stem and an ending meet."""


def sewn(seams, stem, ending):
    """The stem and the ending put together by the first seam that fits, or as they are."""
    for left, right, made in seams:
        if stem.endswith(left) and ending.startswith(right):
            return stem[:len(stem) - len(left)] + made + ending[len(right):]
    return stem + ending
