"""Mixtures of points and rays, and their faces."""
