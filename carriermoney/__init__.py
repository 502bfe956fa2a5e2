"""Money among carriers: tickets, their shares, and the claims that come of them."""
