"""Leastnet: what every net that allows the seen runs must allow."""
