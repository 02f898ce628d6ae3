"""Openroads: letters on roads that a stranger owns."""
