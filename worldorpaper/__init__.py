"""A world or a refutation for books of first-order sentences."""
