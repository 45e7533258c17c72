"""Runsums: a whole run as a handful of numbers, of which sums, products and powers tell all."""
