"""Hurryprice: works that can be done sooner for a price."""
