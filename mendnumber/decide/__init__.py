"""What all words of a source cost."""
