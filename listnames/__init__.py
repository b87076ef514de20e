"""What short names mean: exact sets of them, and what hosts are told of them while zones change."""
