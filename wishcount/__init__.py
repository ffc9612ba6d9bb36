"""Wishcount: votes by orders of wishes, counted by the strongest chains."""
