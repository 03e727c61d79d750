"""Numbers as they are written by their figures."""
