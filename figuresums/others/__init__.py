"""Sums of figures with weights by places, and least multiples."""
