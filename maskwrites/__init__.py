"""Documents written in parts, decided for all documents."""
