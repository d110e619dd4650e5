"""Terms of a self-distributive operation."""
