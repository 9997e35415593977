"""Names, rows, results and bags."""
