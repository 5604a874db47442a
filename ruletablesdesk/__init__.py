"""Tables of rules: what becomes of packets' headers, and which headers a rule counts for."""
