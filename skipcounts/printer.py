"""Lines of sums."""

from skipcounts.sums import need_sum


def line_of(total):
    """Return the line of a sum."""
    need_sum(total)
    terms = [("-" if number < 0 else "+") + str(abs(number)) + "[" + word + "]" for word, number in total.terms()]
    return " ".join(terms) if terms else "0"
