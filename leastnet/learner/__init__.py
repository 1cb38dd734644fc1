"""A learner that keeps logs."""
