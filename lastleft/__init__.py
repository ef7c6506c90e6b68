"""Lastleft: numbers on a board, two wiped out for their difference till one is left."""
