"""What everything else is made of: integers, words and prices."""
