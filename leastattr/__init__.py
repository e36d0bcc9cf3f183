"""Leastattr: least attributes of a grammar, for all trees."""
