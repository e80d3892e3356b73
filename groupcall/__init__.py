"""Groupcall: calls to a group, taken alike by all who go on."""
