"""What programs do with costs: menders, and what can be left out."""
