"""A data house's events built from fragments: see fragmentbuilder.house."""
