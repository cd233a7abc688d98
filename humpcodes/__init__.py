"""Humpcodes: codes of orbits under maps with one hump."""
