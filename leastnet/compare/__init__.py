"""Behaviours compared, words to be barred, sums over runs."""
