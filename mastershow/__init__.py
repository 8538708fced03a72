"""Mastershow: slides under masters, shown step by step."""
