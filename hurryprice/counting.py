"""What is chosen of a net with works by steps: how many choices there are, all of them, a tree over all of them."""

from hurryprice.errors import TooMany

MOST_CHOICES = 64


def chosen_of(net):
    """Tuples (works, many): those that take a corner together, rising, and how many corners each has."""
    works, groups = net[0], net[3]
    rows = [sorted(group) for group in groups]
    bound = [work for group in groups for work in group]
    for work, (name, offer) in enumerate(works):
        if offer[0] == "steps" and work not in bound:
            rows.append([work])
    return [(row, len(works[row[0]][1][1])) for row in sorted(rows)]


def choice_count(net):
    """How many choices there are of all works by steps."""
    count = 1
    for row, many in chosen_of(net):
        count = count * many
    return count


def all_choices(net):
    """All choices of all works by steps, the first ones' corner rising slowest; TooMany of more than sixty-four."""
    if choice_count(net) > MOST_CHOICES:
        raise TooMany("this net has more than sixty-four choices")
    choices = [{}]
    for row, many in chosen_of(net):
        longer = []
        for choice in choices:
            for number in range(many):
                more = dict(choice)
                more.update({work: number for work in row})
                longer.append(more)
        choices = longer
    return choices


def split_by(work, trees):
    """The split of a work into these trees, or one of them that tells the same by itself."""
    if len(trees) == 1:
        return trees[0]
    # The last one has the quick times: what bars there, bars with all longer times, too.
    if trees[-1][0] == "bar":
        return trees[-1]
    # The first one has the least prices, and a paper of nothing claims just those.
    if trees[0] == ("line", []):
        return trees[0]
    return ("split", work, trees)


def tree_over(net, leaves):
    """A tree of these leaves, one for each of all choices of the net, in their order."""
    trees = leaves
    for row, many in reversed(chosen_of(net)):
        trees = [split_by(row[0], trees[at:at + many]) for at in range(0, len(trees), many)]
    return trees[0]
