"""Rings of forms."""
