"""The line of a net."""


def net_line(net):
    """The word net and, for each wire, a / and its houses."""
    return " ".join(["net", *[f"/ {one} {other}" for one, other in net]])
