"""What bars a table on a net: lots asunder, or settings that a lot cannot tell from one another by what it is sent."""

from closereckoned.feardeeds import all_feared
from closereckoned.kinds import is_below
from closereckoned.lots import every_lot, rest_of
from closereckoned.nets import crossing
from closereckoned.settings import every_setting, place_in, setting_from, values_on


def bar_in(ground, net, table):
    """A bar of the table, or None."""
    many = len(ground[0])
    if 0 not in table or 1 not in table:
        return None
    # What bars by a lot bars by its others, too, the chain going back: so lots with house 0 tell all.
    for lot in every_lot(many):
        if 0 in lot and len(lot) < many:
            bar = bar_by(ground, net, table, lot)
            if bar is not None:
                return bar
    return None


def bar_by(ground, net, table, lot):
    """A bar of a table of unlike answers by the lot, or None."""
    sizes = ground[0]
    if len(crossing(net, lot)) == 0:
        return ("asunder", lot, setting_from(sizes, table.index(0)), setting_from(sizes, table.index(1)))
    return heard_bar(sizes, table, lot, least_hearers(ground, net, lot))


def overhears(net, lot, other):
    """Whether each wire between other and its others has an end in the lot."""
    return all([one in lot or another in lot for one, another in crossing(net, other)])


def least_hearers(ground, net, lot):
    """Those of the feared lots that hear the lot that hold no other one of them."""
    # A lot that holds one of these hears it, too, but fewer settings are alike on it.
    hearers = [one for one in all_feared(len(ground[0]), ground[1]) if overhears(net, one, lot)]
    return [one for one in hearers if not any([is_below(other, one) for other in hearers])]


def heard_bar(sizes, table, lot, hearers):
    """A bar by a chain of settings, each two neighbours in it alike on one of the hearers, or None."""
    alike = alike_settings(sizes, table, hearers)
    reached = {}
    for setting in every_setting(sizes):
        if setting not in reached:
            linked = links_from(sizes, table, hearers, alike, setting)
            for member in linked:
                reached[member] = True
            pair = crossed_pair(sizes, table, lot, list(linked))
            if pair is not None:
                chain, lots = chain_to(links_from(sizes, table, hearers, alike, pair[0]), pair[1])
                return ("heard", lot, chain, lots)
    return None


def alike_settings(sizes, table, hearers):
    """By the index of a hearer, the answer and its choices: a list of the settings that have these."""
    alike = {}
    for setting, answer in zip(every_setting(sizes), table):
        for k, hearer in enumerate(hearers):
            alike.setdefault((k, answer, values_on(setting, hearer)), []).append(setting)
    return alike


def links_from(sizes, table, hearers, alike, start):
    """For each setting to which a chain leads from the start: the one ahead, and the hearer on which both agree."""
    answer = table[place_in(sizes, start)]
    links = {start: None}
    ahead = [start]
    gone = {}
    while len(ahead) > 0:
        setting = ahead.pop(0)
        for k, hearer in enumerate(hearers):
            key = (k, answer, values_on(setting, hearer))
            if key not in gone:
                gone[key] = True
                for other in alike[key]:
                    if other not in links:
                        links[other] = (setting, hearer)
                        ahead.append(other)
    return links


def crossed_pair(sizes, table, lot, settings):
    """Two of the settings, of one answer, by which the crossed one has another; or None."""
    rest = rest_of(len(sizes), lot)
    answer = table[place_in(sizes, settings[0])]
    firsts = {values_on(setting, lot): setting for setting in settings}
    lasts = {values_on(setting, rest): setting for setting in settings}
    for first in firsts.values():
        for last in lasts.values():
            if table[place_in(sizes, crossed(lot, first, last))] != answer:
                return (first, last)
    return None


def crossed(lot, first, last):
    """The setting with the first one's choices on the lot and the last one's elsewhere."""
    return tuple([first[house] if house in lot else last[house] for house in range(len(first))])


def chain_to(links, last):
    """The chain to this setting, and for each two neighbours in it the lot on which they agree."""
    chain = [last]
    lots = []
    while links[chain[-1]] is not None:
        before, hearer = links[chain[-1]]
        chain.append(before)
        lots.append(hearer)
    return (tuple(chain[::-1]), tuple(lots[::-1]))
