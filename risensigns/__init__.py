"""Risensigns: how high the signs of a text can rise."""
