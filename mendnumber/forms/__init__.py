"""Forms: finite machines that tell which words there are."""
