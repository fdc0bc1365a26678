"""Desks: prices, forms with names, and pins."""
