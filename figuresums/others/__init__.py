"""Sums of figures with weights by places."""
