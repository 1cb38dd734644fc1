"""Words, vectors, fractions and equations."""
