"""Tables of counts, their rates, and gates."""
