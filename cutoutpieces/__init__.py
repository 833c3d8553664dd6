"""Which rows of a body can be cut out into a function."""
