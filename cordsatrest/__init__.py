"""Cordsatrest: rings that hang in nets of cords, and which of them are surely where they are drawn."""
