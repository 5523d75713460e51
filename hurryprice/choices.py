"""Choices of corners for works by steps, and nets as chosen."""

from hurryprice.nets import is_number_below


def is_chosen(net, work, number):
    """Tells whether two things are the number of a work by steps and that of a corner of it."""
    works = net[0]
    if not is_number_below(work, len(works)):
        return False
    kind, corners = works[work][1]
    return kind == "steps" and is_number_below(number, len(corners))


def keeps_group(choice, group):
    """Tells whether all works of a group are in a choice, with one number, or none is."""
    numbers = [choice[work] for work in group if work in choice]
    return len(numbers) == 0 or numbers == [numbers[0] for work in group]


def is_choice(net, thing):
    """Tells whether a thing is a choice for the net."""
    if not isinstance(thing, dict):
        return False
    if not all([is_chosen(net, work, number) for work, number in thing.items()]):
        return False
    return all([keeps_group(thing, group) for group in net[3]])


def chosen_net(net, choice):
    """The net as chosen: each work in the choice has a straight offer of its one corner."""
    works = []
    for work, (name, (kind, corners)) in enumerate(net[0]):
        if work in choice:
            works.append((name, ("straight", [corners[choice[work]]])))
        else:
            works.append((name, (kind, list(corners))))
    groups = [list(group) for group in net[3] if group[0] not in choice]
    return (works, list(net[1]), list(net[2]), groups)
