"""Unavoidable steps and words, and the least net."""
