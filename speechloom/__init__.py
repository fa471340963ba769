"""Speechloom: tongues told as rules whose features must agree."""
