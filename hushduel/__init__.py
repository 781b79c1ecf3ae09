"""Hushduel: games of two who do not see all, reckoned in fractions."""
