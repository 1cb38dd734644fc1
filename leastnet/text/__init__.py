"""Texts of values, and a shell that is asked by texts."""
