"""Money among carriers: tickets, their shares, the claims that come of them, and how these are cleared."""
