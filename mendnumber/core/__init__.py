"""Rows of targets, and what words cost."""
