"""Crossgrants: cells that cross by asks and grants."""
