"""Places and nets."""
