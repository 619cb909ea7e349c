"""What all parts of the package need: kinds of values, and numbers."""
