"""Askedpairs: pairs asked with chances."""
