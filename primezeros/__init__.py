"""Primezeros: zeros of polynomials over the rests by a prime."""
