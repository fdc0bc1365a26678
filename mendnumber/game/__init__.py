"""Changes of words while they are read."""
