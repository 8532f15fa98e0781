"""Sharetrail: loads that many partners send with one train, and whose each piece is."""
