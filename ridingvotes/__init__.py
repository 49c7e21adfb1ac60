"""Ridingvotes: votes that are passed on while they are counted."""
