"""Nets and plans put beside or behind one another, turned about, scaled."""

from hurryprice.errors import NoJoin, NoNet
from hurryprice.nets import look_at_net
from hurryprice.plans import end_of
from hurryprice.ratios import minus, plus, product


def copied_works(works):
    """The same works with lists of their own."""
    return [(name, (offer[0], list(offer[1]))) for name, offer in works]


def put_beside(one, other):
    """What two nets beside one another are, a net or none."""
    many = len(one[0])
    waits = [(tail + many, head + many, wait) for tail, head, wait in other[1]]
    holds = [(kind, work + many, moment) for kind, work, moment in other[2]]
    groups = [[work + many for work in group] for group in other[3]]
    works = copied_works(one[0]) + copied_works(other[0])
    return (works, one[1] + waits, one[2] + holds, [list(group) for group in one[3]] + groups)


def look_at_join(joined):
    """Refuses a joined net that is none."""
    try:
        look_at_net(joined)
    except NoNet:
        raise NoJoin("these nets together are no net") from None


def nets_beside(one, other):
    """Two nets beside one another, the other's works behind the one's; NoJoin where that is no net."""
    joined = put_beside(one, other)
    look_at_join(joined)
    return joined


def nets_behind(one, other, wait):
    """The other net behind the one by a wait; NoJoin where that is no net, or the other has holds."""
    if len(other[2]) > 0:
        raise NoJoin("a net with holds can't stand behind another one")
    works, waits, holds, groups = put_beside(one, other)
    many = len(one[0])
    between = [(tail, many + head, wait) for tail in range(many) for head in range(len(other[0]))]
    joined = (works, waits + between, holds, groups)
    look_at_join(joined)
    return joined


def net_turned(net):
    """The net with its waits the other way about; NoJoin where it has holds."""
    works, waits, holds, groups = net
    if len(holds) > 0:
        raise NoJoin("a net with holds can't be turned")
    turned = [(other, one, wait) for one, other, wait in waits]
    return (copied_works(works), turned, [], [list(group) for group in groups])


def offer_scaled(offer, span, cost):
    """The offer with its times span times, its prices cost times as much."""
    kind, corners = offer
    return (kind, [(product(span, time), product(cost, price)) for time, price in corners])


def net_scaled(net, span, cost):
    """The net with all times, waits and moments span times, all prices cost times as much."""
    works, waits, holds, groups = net
    return (
        [(name, offer_scaled(offer, span, cost)) for name, offer in works],
        [(one, other, product(span, wait)) for one, other, wait in waits],
        [(kind, work, product(span, moment)) for kind, work, moment in holds],
        [list(group) for group in groups],
    )


def plans_beside(one, other):
    """Two plans beside one another."""
    return one + other


def plan_later(plan, later):
    """The plan with each start so much later."""
    return [(plus(start, later), time) for start, time in plan]


def plan_turned(plan, whole):
    """The plan turned about at a whole: each work starts as long ahead of it as it ended behind (0, 1)."""
    return [(minus(whole, end_of(step)), step[1]) for step in plan]


def plan_scaled(plan, span):
    """The plan with all starts and times span times as much."""
    return [(product(span, start), product(span, time)) for start, time in plan]
