"""Tests of hushdrawers, run by python3 -m unittest from the top of the repository."""
