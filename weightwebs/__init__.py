"""Weightwebs: root systems of rank up to four, weights and crystals."""
