"""Sums with weights by places, and multiples with told sums."""
