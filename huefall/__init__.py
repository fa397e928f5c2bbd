"""Huefall: lamps that dim downwards, and which states follow which."""
