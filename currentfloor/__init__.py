"""Floors of rectangles, and the nets that run in them."""
