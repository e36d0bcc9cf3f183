"""The judge of codes."""

from leastattr.codes import check_over
from leastattr.smallest import first_difference
from leastattr.systems import code_system


def judge(grammar, code):
    """None if a code is right; otherwise a tree with the fewest nodes for which it gives another answer."""
    check_over(grammar, code)
    return first_difference(grammar, code_system(code), code.answers)
