"""Shares: how much of what each one who goes held comes to whom."""

from thankways.flows import amounts_of, flow_behind, flow_of
from thankways.webs import check_names, check_web


def shares(web, names):
    """For each of names, in their turn, a rising tuple of (to, share)."""
    check_web(web)
    check_names(web, names)
    behind = flow_behind(measures_flow(web, names), names)
    return tuple([tuple(amounts_of(behind[1][name], behind[2])) for name in names])


def measures_flow(web, names):
    """The flow of a web with one measure in the hands of each of names, each in a store called as this one."""
    return flow_of(web, {name: {name: (1, 1)} for name in names})


def stuck(web, names):
    """Those of names from whom no row of thanks leads to one who isn't of names."""
    check_web(web)
    check_names(web, names)
    return stuck_of(web, names)


def stuck_of(web, names):
    """What stuck tells, of what is known to be right."""
    within = those_within(web, names)
    if len(within) == len(names):
        return within
    # Whoever thanks one who left is not stuck either.
    return stuck_of(web, within)


def those_within(web, names):
    """Those of names who thank none but some of names."""
    out = [row[0] for row in web[2] if row[1] not in names]
    return tuple([name for name in names if name not in out])
