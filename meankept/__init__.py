"""Meankept: which places a row of deeds keeps in the mean, and what a renaming makes of it."""
