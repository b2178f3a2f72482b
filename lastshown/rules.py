"""What a rule does with the prices of one line."""


def carried_out(rule, price, kept, shown):
    """Carry out a rule at the shop's price of the item.

    Returns the price that the line keeps from then on, the one last shown of it (None if nothing was), the highest
    that the rule showed (0 if it showed none), and how often the person was asked.
    """
    highest = 0
    asks = 0
    for action in rule:
        if action == "take":
            kept = price
        elif action == "least":
            if price < kept:
                kept = price
        elif action == "last":
            if shown is not None:
                kept = shown
        else:
            # An ask that is not needed shows what was last shown, which changes nothing.
            if action == "ask" and kept != shown:
                asks += 1
            shown = kept
            if kept > highest:
                highest = kept
    return kept, shown, highest, asks
