"""What short names mean: hosts, zones, and exact sets of short names."""
