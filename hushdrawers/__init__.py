"""Hushdrawers: a store in which nobody can say whether there is a further drawer."""
