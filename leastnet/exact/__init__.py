"""Nets that have exactly the states of a behaviour."""
