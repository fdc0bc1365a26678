"""Mendnumber: the greatest cost of changing one form into another form."""
