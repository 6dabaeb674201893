"""Items of which some can follow others: as few chains of them as possible, and as many apart.

`orders` tells for each item all items that can follow it, also behind others. None can
follow itself. Each item that is followed in a chain is matched with the next one.
"""


def chains_of(orders):
    """Returns as few lists of items as possible, each in an order in which they can follow, with every item in one."""
    followers, leaders = matched(orders)
    chains = []
    for item, leader in enumerate(leaders):
        if leader is None:
            chain = [item]
            while followers[chain[-1]] is not None:
                chain.append(followers[chain[-1]])
            chains.append(chain)
    return chains


def apart_items(orders):
    """Returns as many items as there are chains, none of which can follow another."""
    followers, leaders = matched(orders)
    # From items without a follower: which could be without one, if others took what follows them.
    free = [item for item, follower in enumerate(followers) if follower is None]
    could_be_free = {item: True for item in free}
    taken = {}
    while free:
        item = free.pop()
        for other in orders[item]:
            if other not in taken:
                taken[other] = True
                if leaders[other] not in could_be_free:
                    could_be_free[leaders[other]] = True
                    free.append(leaders[other])
    return [item for item in range(len(orders)) if item in could_be_free and item not in taken]


def matched(orders):
    """Returns for each item the one that follows it, and the one that it follows, as many as possible."""
    followers = [None] * len(orders)
    leaders = [None] * len(orders)
    for item in range(len(orders)):
        match_one_more(orders, item, followers, leaders)
    return followers, leaders


def match_one_more(orders, item, followers, leaders):
    """Finds a follower for an item, if others can take other followers for that."""
    # For each item that could be a follower, the item that would take it.
    takers = {}
    coming = [item]
    while coming:
        taker = coming.pop()
        for other in orders[taker]:
            if other in takers:
                continue
            takers[other] = taker
            if leaders[other] is None:
                hand_over(other, takers, followers, leaders)
                return
            coming.append(leaders[other])


def hand_over(other, takers, followers, leaders):
    """Gives an item to its taker, what that had before to the taker of this, and so on."""
    while other is not None:
        taker = takers[other]
        before = followers[taker]
        followers[taker] = other
        leaders[other] = taker
        other = before
