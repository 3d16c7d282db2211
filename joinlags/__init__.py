"""Joinlags: queues that may stay silent, and joins that wait for all of them."""
