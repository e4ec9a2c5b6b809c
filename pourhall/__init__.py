"""Pourhall: patterns, moulds, cores and risers of a foundry, told cube by cube."""
