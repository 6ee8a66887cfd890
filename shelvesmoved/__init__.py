"""Shelvesmoved: a house of books moved, shelf by shelf and cart by cart."""
