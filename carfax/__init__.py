"""Carfax: cars on lanes, and many hands that move them."""
