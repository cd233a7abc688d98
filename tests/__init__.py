"""Tests of humpcodes."""
