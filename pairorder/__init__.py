"""Pairorder: serving wishes from stocks by one fixed order of pairs."""
