"""What is told of stretches of numbers."""
