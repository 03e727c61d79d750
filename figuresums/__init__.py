"""Figuresums: sums of figures over rows of numbers."""
