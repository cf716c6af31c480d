"""Leastfield: plates meshed, and the field of least energy on them."""
