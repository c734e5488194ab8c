"""How much can still go wrong on a link, whatever lies in it."""
