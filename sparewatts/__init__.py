"""Sparewatts: a lone machine that meets all due times at the least cost."""
