"""What was seen: behaviours, their paths and circles, and the places that respect them."""
