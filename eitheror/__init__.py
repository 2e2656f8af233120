"""Eitheror: wishes of two words each, and what follows from them."""
