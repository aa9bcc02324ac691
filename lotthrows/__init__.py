"""Lotthrows: cards thrown by kind onto trays and piles."""
