"""Rodwebs: webs of rods that lose nothing, knocked and heard at their ears, in exact fractions."""
